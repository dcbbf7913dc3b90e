/- Stage 12's plain mathematics: squares, who lies in them, who is near. -/
import Derived.KernelRfl
namespace Go.Proofs.Ytkghjaodnkjmoaa
set_option linter.unusedVariables false

/-- May a number be? -/
def sp (v : Int) : Bool := decide (0 ≤ v) && decide (v ≤ 67108864)
theorem sp_iff {v : Int} : sp v = true ↔ 0 ≤ v ∧ v ≤ 67108864 := by simp [sp]
theorem sp_not {v : Int} : sp v = false ↔ ¬ (0 ≤ v ∧ v ≤ 67108864) := by
  rw [← sp_iff]
  cases sp v <;> simp
/-- A square's number, along one side. -/
def sqv (v : Int) : Int := min (max v 0) 67108864 / 4194304
theorem sqv_lo (v : Int) : 0 ≤ sqv v := by unfold sqv; omega
theorem sqv_hi (v : Int) : sqv v ≤ 16 := by unfold sqv; omega
theorem sqv_mono {u v : Int} (h : u ≤ v) : sqv u ≤ sqv v := by unfold sqv; omega
/-- A squared distance. -/
def dst (X Y : Nat → Int) (x y : Int) (i : Nat) : Int := (X i - x) * (X i - x) + (Y i - y) * (Y i - y)
theorem mul_bound {a b : Int} (h1 : -b ≤ a) (h2 : a ≤ b) : 0 ≤ a * a ∧ a * a ≤ b * b := by
  have hb : 0 ≤ b := by omega
  refine ⟨?_, ?_⟩
  · rcases Int.le_total 0 a with h | h
    · exact Int.mul_nonneg h h
    · have := Int.mul_nonneg (Int.neg_nonneg_of_nonpos h) (Int.neg_nonneg_of_nonpos h)
      rwa [Int.neg_mul_neg] at this
  · rcases Int.le_total 0 a with h | h
    · exact Int.mul_le_mul h2 h2 h hb
    · have := Int.mul_le_mul (a := -a) (b := -a) (c := b) (d := b) (by omega) (by omega) (by omega) hb
      rwa [Int.neg_mul_neg] at this
theorem le_of_sq {a r : Int} (hr : 0 ≤ r) (h : a * a ≤ r * r) : -r ≤ a ∧ a ≤ r := by
  refine ⟨?_, ?_⟩
  · apply Classical.byContradiction
    intro hn
    have h1 : r + 1 ≤ -a := by omega
    have h2 := Int.mul_le_mul (a := r + 1) (b := r + 1) (c := -a) (d := -a) h1 h1 (by omega) (by omega)
    rw [Int.neg_mul_neg, Int.add_mul, Int.mul_add] at h2
    omega
  · apply Classical.byContradiction
    intro hn
    have h1 : r + 1 ≤ a := by omega
    have h2 := Int.mul_le_mul (a := r + 1) (b := r + 1) (c := a) (d := a) h1 h1 (by omega) (by omega)
    rw [Int.add_mul, Int.mul_add] at h2
    omega
/-- Whoever is within r lies in a square between those of both ends. -/
theorem near_sq {a x r : Int} (hr : 0 ≤ r) (h : (a - x) * (a - x) ≤ r * r) : sqv (x - r) ≤ sqv a ∧ sqv a ≤ sqv (x + r) := by
  obtain ⟨h1, h2⟩ := le_of_sq hr h
  exact ⟨sqv_mono (by omega), sqv_mono (by omega)⟩

/-- Who of the first k lies in a square. -/
def grp (X Y : Nat → Int) (k : Nat) (a b : Int) : List Nat := (List.range k).filter fun i => decide (sqv (X i) = a) && decide (sqv (Y i) = b)
theorem mem_grp {X Y : Nat → Int} {k : Nat} {a b : Int} {i : Nat} : i ∈ grp X Y k a b ↔ i < k ∧ sqv (X i) = a ∧ sqv (Y i) = b := by simp [grp]
theorem grp_succ (X Y : Nat → Int) (k : Nat) (a b : Int) : grp X Y (k + 1) a b = grp X Y k a b ++ if sqv (X k) = a ∧ sqv (Y k) = b then [k] else [] := by
  simp only [grp, List.range_succ, List.filter_append]
  congr 1
  by_cases h1 : sqv (X k) = a <;> by_cases h2 : sqv (Y k) = b <;> simp [h1, h2]
theorem grp_len (X Y : Nat → Int) (k : Nat) (a b : Int) : (grp X Y k a b).length ≤ k := by
  have := List.length_filter_le (fun i => decide (sqv (X i) = a) && decide (sqv (Y i) = b)) (List.range k)
  simpa [grp] using this

/-- Those that lie in some of the squares along one side, square by square, are those. -/
theorem cells_perm {f : Nat → Int} {p : Nat → Bool} (l : List Nat) : ∀ L : List Int, L.Nodup → (L.flatMap fun c => l.filter fun i => decide (f i = c) && p i).Perm (l.filter fun i => decide (f i ∈ L) && p i)
  | [], _ => by simp
  | c :: L, hn => by
    obtain ⟨h1, h2⟩ := List.nodup_cons.1 hn
    have ih := cells_perm (f := f) (p := p) l L h2
    rw [List.flatMap_cons]
    refine ((ih.append_left _).trans ?_)
    have hs := List.filter_append_perm (fun i => decide (f i = c)) (l.filter fun i => decide (f i ∈ c :: L) && p i)
    rw [List.filter_filter, List.filter_filter] at hs
    have e1 : (l.filter fun i => decide (f i = c) && (decide (f i ∈ c :: L) && p i)) = l.filter fun i => decide (f i = c) && p i := by
      apply List.filter_congr
      intro i _
      by_cases h : f i = c <;> simp [h]
    have e2 : (l.filter fun i => (!decide (f i = c)) && (decide (f i ∈ c :: L) && p i)) = l.filter fun i => decide (f i ∈ L) && p i := by
      apply List.filter_congr
      intro i _
      by_cases h : f i = c
      · subst h; simp [h1]
      · simp [h]
    rw [e1, e2] at hs
    exact hs
theorem flatMap_perm {α β : Type} {f g : α → List β} : ∀ l : List α, (∀ a ∈ l, (f a).Perm (g a)) → (l.flatMap f).Perm (l.flatMap g)
  | [], _ => by simp
  | a :: l, h => by
    rw [List.flatMap_cons, List.flatMap_cons]
    exact (h a (by simp)).append (flatMap_perm l fun b hb => h b (by simp [hb]))

/-- The numbers from a on, n of them. -/
def iot (a : Int) (n : Nat) : List Int := (List.range n).map fun i : Nat => a + (i : Int)
theorem mem_iot {a : Int} {n : Nat} {v : Int} : v ∈ iot a n ↔ a ≤ v ∧ v < a + n := by
  simp only [iot, List.mem_map, List.mem_range]
  constructor
  · rintro ⟨i, h, rfl⟩; omega
  · intro h; exact ⟨(v - a).toNat, by omega, by omega⟩
theorem iot_nodup (a : Int) (n : Nat) : (iot a n).Nodup := by
  unfold iot
  rw [List.Nodup, List.pairwise_map]
  exact List.nodup_range.imp fun h e => h (by omega)
theorem iot_drop (a : Int) (n : Nat) : (iot a (n + 1)) = a :: iot (a + 1) n := by
  unfold iot
  rw [List.range_succ_eq_map, List.map_cons, List.map_map]
  congr 1
  · simp
  · apply List.map_congr_left
    intro i _
    simp only [Function.comp_apply]
    omega

/-- Within r? -/
def okd (X Y : Nat → Int) (x y r : Int) (i : Nat) : Bool := decide (dst X Y x y i ≤ r * r)
/-- What the search hands out: one square's; a row's from column b on, m columns; from row a on, k rows. -/
def wcell (X Y : Nat → Int) (n : Nat) (x y r a b : Int) : List Nat := (grp X Y n a b).filter (okd X Y x y r)
def wrow (X Y : Nat → Int) (n : Nat) (x y r a b : Int) (m : Nat) : List Nat := (iot b m).flatMap (wcell X Y n x y r a)
def wall (X Y : Nat → Int) (n : Nat) (x y r a : Int) (k : Nat) (b : Int) (m : Nat) : List Nat := (iot a k).flatMap fun a => wrow X Y n x y r a b m
theorem wrow_succ (X Y : Nat → Int) (n : Nat) (x y r a b : Int) (m : Nat) : wrow X Y n x y r a b (m + 1) = wcell X Y n x y r a b ++ wrow X Y n x y r a (b + 1) m := by
  unfold wrow; rw [iot_drop, List.flatMap_cons]
theorem wall_succ (X Y : Nat → Int) (n : Nat) (x y r a : Int) (k : Nat) (b : Int) (m : Nat) : wall X Y n x y r a (k + 1) b m = wrow X Y n x y r a b m ++ wall X Y n x y r (a + 1) k b m := by
  unfold wall; rw [iot_drop, List.flatMap_cons]
/-- How many squares lie between. -/
def cnt (a b : Int) : Nat := (b + 1 - a).toNat
/-- Whom the search hands out. -/
def wlist (X Y : Nat → Int) (n : Nat) (x y r : Int) : List Nat := wall X Y n x y r (sqv (x - r)) (cnt (sqv (x - r)) (sqv (x + r))) (sqv (y - r)) (cnt (sqv (y - r)) (sqv (y + r)))
/-- Those within r, in ascending order. -/
def win (X Y : Nat → Int) (n : Nat) (x y r : Int) : List Nat := (List.range n).filter (okd X Y x y r)
theorem wrow_perm (X Y : Nat → Int) (n : Nat) (x y r a b : Int) (m : Nat) : (wrow X Y n x y r a b m).Perm ((List.range n).filter fun i => decide (sqv (X i) = a) && (decide (sqv (Y i) ∈ iot b m) && okd X Y x y r i)) := by
  have h := cells_perm (f := fun i => sqv (Y i)) (p := fun i => decide (sqv (X i) = a) && okd X Y x y r i) (List.range n) (iot b m) (iot_nodup b m)
  have e : ∀ c, wcell X Y n x y r a c = (List.range n).filter fun i => decide (sqv (Y i) = c) && (decide (sqv (X i) = a) && okd X Y x y r i) := by
    intro c
    unfold wcell grp
    rw [List.filter_filter]
    apply List.filter_congr
    intro i _
    cases okd X Y x y r i <;> by_cases h1 : sqv (X i) = a <;> by_cases h2 : sqv (Y i) = c <;> simp [h1, h2]
  unfold wrow
  rw [show wcell X Y n x y r a = fun c => (List.range n).filter fun i => decide (sqv (Y i) = c) && (decide (sqv (X i) = a) && okd X Y x y r i) from funext e]
  refine h.trans (List.Perm.of_eq ?_)
  apply List.filter_congr
  intro i _
  cases okd X Y x y r i <;> by_cases h1 : sqv (X i) = a <;> by_cases h2 : sqv (Y i) ∈ iot b m <;> simp [h1, h2]
theorem wlist_perm (X Y : Nat → Int) (n : Nat) (x y r : Int) (hr : 0 ≤ r) : (wlist X Y n x y r).Perm (win X Y n x y r) := by
  unfold wlist wall
  refine (flatMap_perm _ fun a _ => wrow_perm X Y n x y r a _ _).trans ?_
  refine (cells_perm (f := fun i => sqv (X i)) (p := fun i => decide (sqv (Y i) ∈ iot (sqv (y - r)) (cnt (sqv (y - r)) (sqv (y + r)))) && okd X Y x y r i) (List.range n) _ (iot_nodup _ _)).trans (List.Perm.of_eq ?_)
  unfold win
  apply List.filter_congr
  intro i _
  cases ho : okd X Y x y r i
  · simp
  · have hd : dst X Y x y i ≤ r * r := by simpa [okd] using ho
    unfold dst at hd
    have p1 : 0 ≤ (X i - x) * (X i - x) := by
      rcases Int.le_total 0 (X i - x) with h | h
      · exact Int.mul_nonneg h h
      · exact Int.mul_nonneg_of_nonpos_of_nonpos h h
    have p2 : 0 ≤ (Y i - y) * (Y i - y) := by
      rcases Int.le_total 0 (Y i - y) with h | h
      · exact Int.mul_nonneg h h
      · exact Int.mul_nonneg_of_nonpos_of_nonpos h h
    obtain ⟨a1, a2⟩ := near_sq (a := X i) (x := x) hr (by omega)
    obtain ⟨b1, b2⟩ := near_sq (a := Y i) (x := y) hr (by omega)
    have m1 : sqv (X i) ∈ iot (sqv (x - r)) (cnt (sqv (x - r)) (sqv (x + r))) := mem_iot.2 ⟨a1, by unfold cnt; omega⟩
    have m2 : sqv (Y i) ∈ iot (sqv (y - r)) (cnt (sqv (y - r)) (sqv (y + r))) := mem_iot.2 ⟨b1, by unfold cnt; omega⟩
    simp [m1, m2]
theorem win_mem {X Y : Nat → Int} {n : Nat} {x y r : Int} {i : Nat} : i ∈ win X Y n x y r ↔ i < n ∧ dst X Y x y i ≤ r * r := by simp [win, okd]
theorem win_len (X Y : Nat → Int) (n : Nat) (x y r : Int) : (win X Y n x y r).length ≤ n := by
  have := List.length_filter_le (okd X Y x y r) (List.range n)
  simpa [win] using this
theorem win_asc (X Y : Nat → Int) (n : Nat) (x y r : Int) : (win X Y n x y r).Pairwise (· < ·) := List.pairwise_lt_range.filter _
theorem wlist_len (X Y : Nat → Int) (n : Nat) (x y r : Int) (hr : 0 ≤ r) : (wlist X Y n x y r).length ≤ n := by
  rw [(wlist_perm X Y n x y r hr).length_eq]; exact win_len X Y n x y r
end Go.Proofs.Ytkghjaodnkjmoaa
