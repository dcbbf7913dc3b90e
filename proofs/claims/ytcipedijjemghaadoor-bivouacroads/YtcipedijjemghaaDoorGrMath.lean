/- Plain mathematics of regions: cells that share a side, what can be reached, labels, how they are spread, how they fall. -/
import Derived.RowKit
import Derived.IntWalk
namespace Go.Proofs.YtcipedijjemghaaDoor
set_option linter.unusedVariables false

/-- Two cells of a land of N cells, W wide, share a side. -/
def Adj (W N k m : Nat) : Prop := k < N ∧ m < N ∧ (m + W = k ∨ (m + 1 = k ∧ 0 < k % W) ∨ (k + 1 = m ∧ 0 < m % W) ∨ k + W = m)
theorem Adj.symm {W N k m : Nat} (h : Adj W N k m) : Adj W N m k := by unfold Adj at *; omega
theorem Adj.lt {W N k m : Nat} (h : Adj W N k m) : k < N ∧ m < N := ⟨h.1, h.2.1⟩

/-- m can be reached from k over open cells. -/
def Conn (adj : Nat → Nat → Prop) (g : Nat → Bool) (k m : Nat) : Prop :=
  g k = true ∧ ∀ S : Nat → Prop, S k → (∀ a b, S a → adj a b → g b = true → S b) → S m
theorem Conn.refl {adj : Nat → Nat → Prop} {g : Nat → Bool} {k : Nat} (h : g k = true) : Conn adj g k k := ⟨h, fun _ s _ => s⟩
theorem Conn.step {adj : Nat → Nat → Prop} {g : Nat → Bool} {k m n : Nat} (h : Conn adj g k m) (a : adj m n) (hn : g n = true) : Conn adj g k n :=
  ⟨h.1, fun S s f => f m n (h.2 S s f) a hn⟩

/-- L is the labelling: each open cell bears its region's least number, the others -1. -/
structure IsLab (adj : Nat → Nat → Prop) (g : Nat → Bool) (N : Nat) (L : Nat → Int) : Prop where
  shut : ∀ k, k < N → g k = false → L k = -1
  free : ∀ k, k < N → g k = true → 0 ≤ L k ∧ L k ≤ (k : Int) ∧ Conn adj g (L k).toNat k
  same : ∀ k m, adj k m → g k = true → g m = true → L k = L m
theorem IsLab.along {adj : Nat → Nat → Prop} {g : Nat → Bool} {N : Nat} {L : Nat → Int} (h : IsLab adj g N L) {k m : Nat} (c : Conn adj g k m) : g m = true ∧ L m = L k :=
  c.2 (fun a => g a = true ∧ L a = L k) ⟨c.1, rfl⟩ (fun a b s e hb => ⟨hb, (h.same a b e s.1 hb).symm.trans s.2⟩)
theorem IsLab.root {adj : Nat → Nat → Prop} {g : Nat → Bool} {N : Nat} {L : Nat → Int} (h : IsLab adj g N L) {k : Nat} (hk : k < N) (hg : g k = true) : L (L k).toNat = L k ∧ g (L k).toNat = true :=
  ⟨(h.along (h.free k hk hg).2.2).2.symm, (h.free k hk hg).2.2.1⟩
theorem IsLab.le {adj : Nat → Nat → Prop} {g : Nat → Bool} {N : Nat} {L M : Nat → Int} (h : IsLab adj g N L) (h2 : IsLab adj g N M) {k : Nat} (hk : k < N) (hg : g k = true) : L k ≤ M k := by
  obtain ⟨m0, m1, mc⟩ := h2.free k hk hg
  have e := (h.along mc).2
  have hr : g (M k).toNat = true := mc.1
  have := (h.free (M k).toNat (by omega) hr).2.1
  omega
/-- There is one such labelling. -/
theorem IsLab.one {adj : Nat → Nat → Prop} {g : Nat → Bool} {N : Nat} {L M : Nat → Int} (h : IsLab adj g N L) (h2 : IsLab adj g N M) {k : Nat} (hk : k < N) : L k = M k := by
  cases hg : g k with
  | false => rw [h.shut k hk hg, h2.shut k hk hg]
  | true => have a := h.le h2 hk hg; have b := h2.le h hk hg; omega
theorem IsLab.neg {adj : Nat → Nat → Prop} {g : Nat → Bool} {N : Nat} {L : Nat → Int} (h : IsLab adj g N L) {k : Nat} (hk : k < N) : g k = true ↔ 0 ≤ L k := by
  cases hg : g k with
  | false => have := h.shut k hk hg; simp; omega
  | true => have := (h.free k hk hg).1; simp; omega
theorem IsLab.congr {adj : Nat → Nat → Prop} {g : Nat → Bool} {N : Nat} {L M : Nat → Int} (ha : ∀ k m, adj k m → k < N ∧ m < N) (h : IsLab adj g N L) (e : ∀ k, k < N → L k = M k) : IsLab adj g N M :=
  ⟨fun k hk hg => (e k hk).symm.trans (h.shut k hk hg), fun k hk hg => by rw [← e k hk]; exact h.free k hk hg,
    fun k m a hk hm => by rw [← e k (ha k m a).1, ← e m (ha k m a).2]; exact h.same k m a hk hm⟩

/-- A function turned at one place. -/
def upd (R : Nat → Int) (n : Nat) (v : Int) : Nat → Int := fun k => if k = n then v else R k
theorem upd_same (R : Nat → Int) (n : Nat) (v : Int) : upd R n v n = v := by simp [upd]
theorem upd_other (R : Nat → Int) (n : Nat) (v : Int) {k : Nat} (h : k ≠ n) : upd R n v k = R k := by simp [upd, h]

/-- How many of the first n are -1. -/
def cnt (R : Nat → Int) : Nat → Nat
  | 0 => 0
  | n + 1 => cnt R n + (if R n = -1 then 1 else 0)
theorem cnt_congr {R Q : Nat → Int} : ∀ {n : Nat}, (∀ i, i < n → R i = Q i) → cnt R n = cnt Q n
  | 0, _ => rfl
  | n + 1, h => by unfold cnt; rw [cnt_congr (n := n) (fun i hi => h i (by omega)), h n (by omega)]
theorem cnt_le (R : Nat → Int) : ∀ n, cnt R n ≤ n
  | 0 => Nat.le_refl _
  | n + 1 => by have := cnt_le R n; unfold cnt; split <;> omega
theorem cnt_upd {R : Nat → Int} {m : Nat} {v : Int} (hm : R m = -1) (hv : v ≠ -1) : ∀ {n : Nat}, m < n → cnt (upd R m v) n + 1 = cnt R n
  | n + 1, h => by
    unfold cnt
    by_cases e : m = n
    · subst e
      rw [cnt_congr (R := upd R m v) (Q := R) (fun i hi => upd_other R m v (by omega)), upd_same, if_neg hv, hm, if_pos rfl]
    · rw [upd_other R m v (fun e2 => e e2.symm)]
      have := cnt_upd hm hv (n := n) (by omega)
      omega

/-- The cells below c are done: each region that one of them is of is labelled whole. -/
structure Part (adj : Nat → Nat → Prop) (g : Nat → Bool) (N c : Nat) (R : Nat → Int) : Prop where
  shut : ∀ k, k < N → g k = false → R k = -1
  lab : ∀ k, k < N → R k ≠ -1 → 0 ≤ R k ∧ R k ≤ (k : Int) ∧ Conn adj g (R k).toNat k
  done : ∀ k, k < c → k < N → g k = true → R k ≠ -1
  same : ∀ k m, adj k m → g m = true → R k ≠ -1 → R m = R k
theorem Part.start (adj : Nat → Nat → Prop) (g : Nat → Bool) (N : Nat) : Part adj g N 0 (fun _ => -1) :=
  ⟨fun _ _ _ => rfl, fun _ _ h => absurd rfl h, fun _ h => by omega, fun _ _ _ _ h => absurd rfl h⟩
theorem Part.skip {adj : Nat → Nat → Prop} {g : Nat → Bool} {N c : Nat} {R : Nat → Int} (h : Part adj g N c R) (hc : g c = true → R c ≠ -1) : Part adj g N (c + 1) R :=
  ⟨h.shut, h.lab, fun k h1 h2 h3 => by
    rcases Nat.lt_or_ge k c with hl | hl
    · exact h.done k hl h2 h3
    · have e : k = c := by omega
      subst e; exact hc h3, h.same⟩
theorem Part.isLab {adj : Nat → Nat → Prop} {g : Nat → Bool} {N : Nat} {R : Nat → Int} (ha : ∀ k m, adj k m → k < N ∧ m < N) (h : Part adj g N N R) : IsLab adj g N R :=
  ⟨h.shut, fun k hk hg => h.lab k hk (h.done k hk hk hg), fun k m a hk hm => (h.same k m a hm (h.done k (ha k m a).1 (ha k m a).1 hk)).symm⟩

/-- c's region is being labelled: S, the cells still to be looked at; but for x, whose neighbours out of ns were looked at. -/
structure Mid (adj : Nat → Nat → Prop) (g : Nat → Bool) (N c : Nat) (R0 R : Nat → Int) (S : List Nat) (X : Nat → Prop) : Prop where
  keep : ∀ k, R0 k ≠ -1 → R k = R0 k
  new : ∀ k, R0 k = -1 → R k = -1 ∨ (R k = (c : Int) ∧ g k = true ∧ Conn adj g c k)
  me : R c = (c : Int)
  stk : ∀ k ∈ S, k < N ∧ R k = (c : Int) ∧ R0 k = -1
  fin : ∀ k m, R0 k = -1 → R k = (c : Int) → k ∉ S → ¬ X k → adj k m → g m = true → R m = (c : Int)
  len : S.length + cnt R N ≤ N
theorem Mid.start {adj : Nat → Nat → Prop} {g : Nat → Bool} {N c : Nat} {R0 : Nat → Int} (hc : c < N) (hg : g c = true) (h0 : R0 c = -1) : Mid adj g N c R0 (upd R0 c (c : Int)) [c] (fun _ => False) := by
  refine ⟨fun k h => upd_other _ _ _ (fun e => h (by rw [e]; exact h0)), fun k h => ?_, upd_same _ _ _, fun k hk => ?_, fun k m h0 h1 h2 _ _ _ => ?_, ?_⟩
  · by_cases e : k = c
    · subst e; exact .inr ⟨upd_same _ _ _, hg, Conn.refl hg⟩
    · exact .inl ((upd_other _ _ _ e).trans h)
  · have e : k = c := by simpa using hk
    subst e; exact ⟨hc, upd_same _ _ _, h0⟩
  · have e : k ≠ c := by simpa using h2
    rw [upd_other _ _ _ e, h0] at h1
    omega
  · have := cnt_upd (v := (c : Int)) h0 (by omega) hc
    have := cnt_le R0 N
    simp; omega
/-- One cell is taken off. -/
theorem Mid.pop {adj : Nat → Nat → Prop} {g : Nat → Bool} {N c : Nat} {R0 R : Nat → Int} {S : List Nat} {x : Nat} (h : Mid adj g N c R0 R (S ++ [x]) (fun _ => False)) :
    Mid adj g N c R0 R S (fun k => k = x) ∧ x < N ∧ R x = (c : Int) ∧ R0 x = -1 ∧ S.length + 1 + cnt R N ≤ N := by
  obtain ⟨h1, h2, h3⟩ := h.stk x (by simp)
  have hl := h.len
  simp at hl
  refine ⟨⟨h.keep, h.new, h.me, fun k hk => h.stk k (by simp [hk]), fun k m a b d e f i => ?_, by omega⟩, h1, h2, h3, by omega⟩
  exact h.fin k m a b (by simp [d]; exact e) (fun f => f) f i
/-- A neighbour that is not open, or has its label. -/
theorem Mid.has {adj : Nat → Nat → Prop} {g : Nat → Bool} {N c : Nat} {R0 R : Nat → Int} {S : List Nat} {X : Nat → Prop} (hs : ∀ a b, adj a b → adj b a) (hp : Part adj g N c R0) (h : Mid adj g N c R0 R S X) {x n : Nat}
    (hx : R x = (c : Int)) (hx0 : R0 x = -1) (a : adj x n) (hn : R n ≠ -1) : R n = (c : Int) := by
  have gx : g x = true := by
    rcases h.new x hx0 with e | e
    · rw [hx] at e; omega
    · exact e.2.1
  by_cases e0 : R0 n = -1
  · rcases h.new n e0 with e | e
    · exact absurd e hn
    · exact e.1
  · exact absurd (hp.same n x (hs _ _ a) gx e0) (by rw [hx0]; exact fun e => e0 e.symm)
/-- A neighbour is labelled and put on. -/
theorem Mid.push {adj : Nat → Nat → Prop} {g : Nat → Bool} {N c : Nat} {R0 R : Nat → Int} {S : List Nat} {X : Nat → Prop} (h : Mid adj g N c R0 R S X) {x n : Nat}
    (hx : R x = (c : Int)) (hx0 : R0 x = -1) (a : adj x n) (hnN : n < N) (hg : g n = true) (hn : R n = -1) :
    Mid adj g N c R0 (upd R n (c : Int)) (S ++ [n]) X ∧ (S ++ [n]).length + cnt (upd R n (c : Int)) N = S.length + cnt R N ∧ upd R n (c : Int) x = (c : Int) := by
  have cx : Conn adj g c x := by
    rcases h.new x hx0 with e | e
    · rw [hx] at e; omega
    · exact e.2.2
  have h0 : R0 n = -1 := Classical.byContradiction fun e => by rw [h.keep n e] at hn; exact e hn
  have hc := cnt_upd (v := (c : Int)) hn (by omega) hnN
  have up : ∀ k, R k = (c : Int) → upd R n (c : Int) k = (c : Int) := fun k e => by unfold upd; split <;> first | rfl | exact e
  refine ⟨⟨fun k e => ?_, fun k e => ?_, up _ h.me, fun k hk => ?_, fun k m b1 b2 b3 b4 b5 b6 => ?_, ?_⟩, by simp; omega, up _ hx⟩
  · rw [upd_other _ _ _ (fun e2 => e (by rw [e2]; exact h0))]; exact h.keep k e
  · by_cases e2 : k = n
    · subst e2; exact .inr ⟨upd_same _ _ _, hg, cx.step a hg⟩
    · rw [upd_other _ _ _ e2]; exact h.new k e
  · rcases List.mem_append.1 hk with hk | hk
    · exact ⟨(h.stk k hk).1, up _ (h.stk k hk).2.1, (h.stk k hk).2.2⟩
    · have e : k = n := by simpa using hk
      subst e; exact ⟨hnN, upd_same _ _ _, h0⟩
  · have e1 : k ≠ n := fun e => b3 (by simp [e])
    rw [upd_other _ _ _ e1] at b2
    exact up _ (h.fin k m b1 b2 (fun e => b3 (by simp [e])) b4 b5 b6)
  · have := h.len; simp; omega
/-- All of x's neighbours were looked at. -/
theorem Mid.close {adj : Nat → Nat → Prop} {g : Nat → Bool} {N c : Nat} {R0 R : Nat → Int} {S : List Nat} {x : Nat} (h : Mid adj g N c R0 R S (fun k => k = x)) (hx : ∀ m, adj x m → g m = true → R m = (c : Int)) : Mid adj g N c R0 R S (fun _ => False) :=
  ⟨h.keep, h.new, h.me, h.stk, fun k m a b d _ f i => by
    by_cases e : k = x
    · subst e; exact hx m f i
    · exact h.fin k m a b d e f i, h.len⟩
theorem Mid.done {adj : Nat → Nat → Prop} {g : Nat → Bool} {N c : Nat} {R0 R : Nat → Int} (hp : Part adj g N c R0) (h : Mid adj g N c R0 R [] (fun _ => False)) : Part adj g N (c + 1) R := by
  have low : ∀ k, k < N → R0 k = -1 → g k = true → (c : Int) ≤ (k : Int) := fun k hk e hg => by
    rcases Nat.lt_or_ge k c with hl | hl
    · exact absurd e (hp.done k hl hk hg)
    · omega
  refine ⟨fun k hk hg => ?_, fun k hk hR => ?_, fun k h1 h2 h3 => ?_, fun k m a hm hR => ?_⟩
  · rcases h.new k (hp.shut k hk hg) with e | e
    · exact e
    · rw [e.2.1] at hg; cases hg
  · by_cases e0 : R0 k = -1
    · rcases h.new k e0 with e | e
      · exact absurd e hR
      · rw [e.1]; exact ⟨by omega, low k hk e0 e.2.1, by simpa using e.2.2⟩
    · rw [h.keep k e0]; exact hp.lab k hk e0
  · rcases Nat.lt_or_ge k c with hl | hl
    · have := hp.done k hl h2 h3
      rw [h.keep k this]; exact this
    · have e : k = c := by omega
      subst e; rw [h.me]; omega
  · by_cases e0 : R0 k = -1
    · rcases h.new k e0 with e | e
      · exact absurd e hR
      · rw [e.1]; exact h.fin k m e0 e.1 (by simp) (fun f => f) a hm
    · rw [h.keep k e0]
      have e1 := hp.same k m a hm e0
      rw [← e1]; exact h.keep m (by rw [e1]; exact e0)

/-- The neighbours of x, in the program's order. -/
def nbl (W H x : Nat) : List Nat :=
  (if 0 < x / W then [x - W] else []) ++ ((if 0 < x % W then [x - 1] else []) ++ ((if x % W + 1 < W then [x + 1] else []) ++ (if x / W + 1 < H then [x + W] else [])))
theorem div_pos {W x : Nat} (hW : 0 < W) : 0 < x / W ↔ W ≤ x := by
  constructor
  · intro h
    rcases Nat.lt_or_ge x W with hl | hl
    · rw [Nat.div_eq_of_lt hl] at h; omega
    · exact hl
  · intro h; exact Nat.div_pos h hW
theorem row_lt {W H x : Nat} (hx : x < W * H) (hW : 0 < W) : x / W < H ∧ x % W < W ∧ x = W * (x / W) + x % W := by
  refine ⟨Nat.div_lt_of_lt_mul hx, Nat.mod_lt _ hW, (Nat.div_add_mod x W).symm⟩
theorem next_mod {W x : Nat} (hW : 0 < W) : 0 < (x + 1) % W ↔ x % W + 1 < W := by
  rw [Nat.add_mod]
  have h := Nat.mod_lt x hW
  by_cases h1 : W = 1
  · subst h1; simp [Nat.mod_one]
  · rw [Nat.mod_eq_of_lt (show 1 < W by omega)]
    rcases Nat.lt_or_ge (x % W + 1) W with hl | hl
    · rw [Nat.mod_eq_of_lt hl]; omega
    · have e : x % W + 1 = W := by omega
      rw [e, Nat.mod_self]; omega
theorem down_lt {W H x : Nat} (hx : x < W * H) (hW : 0 < W) : x / W + 1 < H ↔ x + W < W * H := by
  obtain ⟨h1, h2, h3⟩ := row_lt hx hW
  constructor
  · intro h
    have := Nat.mul_le_mul_left W (show x / W + 2 ≤ H by omega)
    have e : W * (x / W + 2) = W * (x / W) + W + W := by rw [Nat.mul_add]; omega
    omega
  · intro h
    rcases Nat.lt_or_ge (x / W + 1) H with hl | hl
    · exact hl
    · have := Nat.mul_le_mul_left W hl
      have e : W * (x / W + 1) = W * (x / W) + W := by rw [Nat.mul_add]; omega
      omega
theorem mem_nbl {W H x m : Nat} (hW : 0 < W) (hx : x < W * H) : m ∈ nbl W H x ↔ Adj W (W * H) x m := by
  obtain ⟨h1, h2, h3⟩ := row_lt hx hW
  have d1 := div_pos (x := x) hW
  have d2 := next_mod (x := x) hW
  have d3 := down_lt hx hW
  have hrow : x % W + 1 < W → x + 1 < W * H := by
    intro h
    have := Nat.mul_le_mul_left W (show x / W + 1 ≤ H by omega)
    have e : W * (x / W + 1) = W * (x / W) + W := by rw [Nat.mul_add]; omega
    omega
  unfold nbl Adj
  simp only [List.mem_append]
  constructor
  · rintro (h | h | h | h)
    · split at h
      · simp at h; subst h
        refine ⟨hx, by omega, .inl (by omega)⟩
      · cases h
    · split at h
      · rename_i hp
        simp at h; subst h
        have : 0 < x := by
          rcases Nat.eq_zero_or_pos x with e | e
          · rw [e] at hp; simp at hp
          · exact e
        refine ⟨hx, by omega, .inr (.inl ⟨by omega, hp⟩)⟩
      · cases h
    · split at h
      · rename_i hp
        simp at h; subst h
        exact ⟨hx, hrow hp, .inr (.inr (.inl ⟨rfl, d2.2 hp⟩))⟩
      · cases h
    · split at h
      · rename_i hp
        simp at h; subst h
        exact ⟨hx, d3.1 hp, .inr (.inr (.inr rfl))⟩
      · cases h
  · rintro ⟨_, hm, h | ⟨h, hp⟩ | ⟨h, hp⟩ | h⟩
    · left; rw [if_pos (d1.2 (by omega))]; simp; omega
    · right; left; rw [if_pos hp]; simp; omega
    · right; right; left; subst h; rw [if_pos (d2.1 hp)]; simp
    · right; right; right; subst h; rw [if_pos (d3.2 hm)]; simp

/-- The reference's test on two cells. -/
theorem beside_iff {W H k n : Nat} (hW : 0 < W) (hk : k < W * H) (hn : n < W * H) (h4 : n + W = k ∨ n + 1 = k ∨ k + 1 = n ∨ k + W = n) :
    (((k % W : Nat) : Int) - ((n % W : Nat) : Int)) * (((k % W : Nat) : Int) - ((n % W : Nat) : Int)) + (((k / W : Nat) : Int) - ((n / W : Nat) : Int)) * (((k / W : Nat) : Int) - ((n / W : Nat) : Int)) = 1 ↔ Adj W (W * H) k n := by
  have key : ∀ a b : Nat, a + W = b → b % W = a % W ∧ b / W = a / W + 1 := by
    intro a b e; subst e
    exact ⟨Nat.add_mod_right a W, Nat.add_div_right a hW⟩
  have key2 : ∀ a b : Nat, a + 1 = b → (0 < b % W → b % W = a % W + 1 ∧ b / W = a / W) ∧ (b % W = 0 → a % W + 1 = W ∧ b / W = a / W + 1) := by
    intro a b e
    obtain ea := Nat.div_add_mod a W
    have la := Nat.mod_lt a hW
    rcases Nat.lt_or_ge (a % W + 1) W with hl | hl
    · have e1 : b = (a % W + 1) + W * (a / W) := by omega
      have m1 : b % W = a % W + 1 := by rw [e1, Nat.add_mul_mod_self_left, Nat.mod_eq_of_lt hl]
      have m2 : b / W = a / W := by rw [e1, Nat.add_mul_div_left _ _ hW, Nat.div_eq_of_lt hl]; omega
      exact ⟨fun _ => ⟨m1, m2⟩, fun h => by omega⟩
    · have e1 : b = 0 + W * (a / W + 1) := by rw [Nat.mul_add]; omega
      have m1 : b % W = 0 := by rw [e1, Nat.add_mul_mod_self_left]; simp
      have m2 : b / W = a / W + 1 := by rw [e1, Nat.add_mul_div_left _ _ hW]; simp
      exact ⟨fun h => by omega, fun _ => ⟨by omega, m2⟩⟩
  have sq : ∀ z : Int, z * z = 0 → z = 0 := fun z h => by rcases Int.mul_eq_zero.1 h with h | h <;> exact h
  unfold Adj
  rcases h4 with e | e | e | e
  · obtain ⟨a, b⟩ := key n k e
    rw [a, b]
    constructor
    · intro _; exact ⟨hk, hn, .inl e⟩
    · intro _
      have e1 : ((n % W : Nat) : Int) - ((n % W : Nat) : Int) = 0 := by omega
      have e2 : (((n / W + 1 : Nat)) : Int) - ((n / W : Nat) : Int) = 1 := by omega
      rw [e1, e2]; rfl
  · obtain ⟨a, b⟩ := key2 n k e
    rcases Nat.eq_zero_or_pos (k % W) with hz | hp
    · obtain ⟨c, d⟩ := b hz
      rw [hz, d]
      have e2 : (((n / W + 1 : Nat)) : Int) - ((n / W : Nat) : Int) = 1 := by omega
      rw [e2]
      constructor
      · intro h
        have z := sq (((0 : Nat) : Int) - ((n % W : Nat) : Int)) (by omega)
        exact ⟨hk, hn, .inl (by omega)⟩
      · rintro ⟨_, _, h | ⟨_, h⟩ | ⟨h, _⟩ | h⟩
        · have e1 : ((0 : Nat) : Int) - ((n % W : Nat) : Int) = 0 := by omega
          rw [e1]; rfl
        · omega
        · omega
        · omega
    · obtain ⟨c, d⟩ := a hp
      constructor
      · intro _; exact ⟨hk, hn, .inr (.inl ⟨e, hp⟩)⟩
      · intro _
        rw [c, d]
        have e1 : (((n % W + 1 : Nat)) : Int) - ((n % W : Nat) : Int) = 1 := by omega
        have e2 : ((n / W : Nat) : Int) - ((n / W : Nat) : Int) = 0 := by omega
        rw [e1, e2]; rfl
  · obtain ⟨a, b⟩ := key2 k n e
    rcases Nat.eq_zero_or_pos (n % W) with hz | hp
    · obtain ⟨c, d⟩ := b hz
      rw [hz, d]
      have e2 : ((k / W : Nat) : Int) - (((k / W + 1 : Nat)) : Int) = -1 := by omega
      rw [e2]
      constructor
      · intro h
        have z := sq (((k % W : Nat) : Int) - ((0 : Nat) : Int)) (by omega)
        exact ⟨hk, hn, .inr (.inr (.inr (by omega)))⟩
      · rintro ⟨_, _, h | ⟨h, _⟩ | ⟨_, h⟩ | h⟩
        · omega
        · omega
        · omega
        · have e1 : ((k % W : Nat) : Int) - ((0 : Nat) : Int) = 0 := by omega
          rw [e1]; rfl
    · obtain ⟨c, d⟩ := a hp
      constructor
      · intro _; exact ⟨hk, hn, .inr (.inr (.inl ⟨e, hp⟩))⟩
      · intro _
        rw [c, d]
        have e1 : ((k % W : Nat) : Int) - (((k % W + 1 : Nat)) : Int) = -1 := by omega
        have e2 : ((k / W : Nat) : Int) - ((k / W : Nat) : Int) = 0 := by omega
        rw [e1, e2]; rfl
  · obtain ⟨a, b⟩ := key k n e
    rw [a, b]
    constructor
    · intro _; exact ⟨hk, hn, .inr (.inr (.inr e))⟩
    · intro _
      have e1 : ((k % W : Nat) : Int) - ((k % W : Nat) : Int) = 0 := by omega
      have e2 : ((k / W : Nat) : Int) - (((k / W + 1 : Nat)) : Int) = -1 := by omega
      rw [e1, e2]; rfl

/-- The reference: labels fall. -/
structure Fall (adj : Nat → Nat → Prop) (g : Nat → Bool) (N : Nat) (R : Nat → Int) : Prop where
  shut : ∀ k, k < N → g k = false → R k = -1
  free : ∀ k, k < N → g k = true → 0 ≤ R k ∧ R k ≤ (k : Int) ∧ Conn adj g (R k).toNat k
theorem Fall.start (adj : Nat → Nat → Prop) (g : Nat → Bool) (N : Nat) : Fall adj g N (fun k => if g k = true then (k : Int) else -1) :=
  ⟨fun k _ h => by simp [h], fun k _ h => by simp [h]; exact Conn.refl h⟩
theorem Fall.set {adj : Nat → Nat → Prop} {g : Nat → Bool} {N : Nat} {R : Nat → Int} (hs : ∀ a b, adj a b → adj b a) (ha : ∀ k m, adj k m → k < N ∧ m < N) (h : Fall adj g N R) {k n : Nat} (a : adj k n) (gk : g k = true) (gn : g n = true) (lt : R n < R k) : Fall adj g N (upd R k (R n)) := by
  obtain ⟨hk, hn⟩ := ha k n a
  refine ⟨fun m hm hg => ?_, fun m hm hg => ?_⟩
  · rw [upd_other _ _ _ (fun e => by rw [e, gk] at hg; cases hg)]; exact h.shut m hm hg
  · by_cases e : m = k
    · subst e
      rw [upd_same]
      obtain ⟨b1, b2, b3⟩ := h.free n hn gn
      have := (h.free m hm gk).2.1
      exact ⟨b1, by omega, b3.step (hs _ _ a) gk⟩
    · rw [upd_other _ _ _ e]; exact h.free m hm hg
theorem Fall.isLab {adj : Nat → Nat → Prop} {g : Nat → Bool} {N : Nat} {R : Nat → Int} (hs : ∀ a b, adj a b → adj b a) (h : Fall adj g N R) (he : ∀ k n, adj k n → g k = true → g n = true → R k ≤ R n) : IsLab adj g N R :=
  ⟨h.shut, h.free, fun k m a gk gm => by have := he k m a gk gm; have := he m k (hs _ _ a) gm gk; omega⟩
/-- The sum of the labels. -/
def sumR (R : Nat → Int) : Nat → Nat
  | 0 => 0
  | n + 1 => sumR R n + (R n).toNat
theorem sumR_congr {R Q : Nat → Int} : ∀ {n : Nat}, (∀ i, i < n → R i = Q i) → sumR R n = sumR Q n
  | 0, _ => rfl
  | n + 1, h => by unfold sumR; rw [sumR_congr (n := n) (fun i hi => h i (by omega)), h n (by omega)]
theorem sumR_upd {R : Nat → Int} {m : Nat} {v : Int} (h0 : 0 ≤ v) (hv : v < R m) : ∀ {n : Nat}, m < n → sumR (upd R m v) n < sumR R n
  | n + 1, h => by
    unfold sumR
    by_cases e : m = n
    · subst e
      rw [sumR_congr (R := upd R m v) (Q := R) (fun i hi => upd_other R m v (by omega)), upd_same]
      omega
    · rw [upd_other R m v (fun e2 => e e2.symm)]
      have := sumR_upd h0 hv (n := n) (by omega)
      omega

end Go.Proofs.YtcipedijjemghaaDoor
