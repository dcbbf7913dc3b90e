/- A book that came in, as the walks are told of it. -/
import Derived.Test.YtpgifcgidelmaaaKh2
import Derived.Deep.Slices
import Derived.ProofKit
import Derived.OpenShut
import Derived.Lib.SmallJoins
namespace Go.Proofs.Ytpgifcgidelmaaa
open Go.ChangeShapes Go.WideShapes Go.ChangeAt Go.RowKit Go.Joins Go.Deep
set_option linter.unusedVariables false

theorem cellskind_open : Try.prog.cellsOf 46 = 20 := by kernel_rfl
theorem cellsweapon_open : Try.prog.cellsOf 51 = 6 := by kernel_rfl
theorem cellsBook10 : Try.prog.cellsOf 26 = 2 := by kernel_rfl
theorem cellsInt10 : Try.prog.cellsOf 3 = 1 := by kernel_rfl
theorem cellsI6410 : Try.prog.cellsOf 2 = 1 := by kernel_rfl
theorem cellsBool10 : Try.prog.cellsOf 4 = 1 := by kernel_rfl
theorem cellsKinds10 : Try.prog.cellsOf 23 = 1 := by kernel_rfl
theorem cellsWeapons10 : Try.prog.cellsOf 24 = 1 := by kernel_rfl
instance : Inhabited (Nat → Int) := ⟨fun _ => 0⟩
set_option maxHeartbeats 2000000 in
theorem kind_open {H : Type} {enc : TypeId × Value → H} {w : World} {base : Nat} {spare : Nat → Bool} {held : Bool} {fuel : Nat} {cs : List Value} {x : DataW H × List MemPlace}
    (hf : DataW.trod enc Try.prog w base spare held fuel 46 cs = some x) : ∃ f : Nat → Int, cs = (kcs f).toList := by
  obtain ⟨xs, n, _, _, hlen, hxl, hg⟩ := DataW.trod_struct Try.underlying46 hf
  match cs, hlen.trans cellskind_open with
  | [c0, c1, c2, c3, c4, c5, c6, c7, c8, c9, c10, c11, c12, c13, c14, c15, c16, c17, c18, c19], _ =>
    match xs, hxl with
    | [y0, y1, y2, y3, y4, y5, y6, y7, y8, y9, y10, y11, y12, y13, y14, y15, y16, y17, y18, y19], _ =>
      have g0 := hg 0 _ rfl
      have g1 := hg 1 _ rfl
      have g2 := hg 2 _ rfl
      have g3 := hg 3 _ rfl
      have g4 := hg 4 _ rfl
      have g5 := hg 5 _ rfl
      have g6 := hg 6 _ rfl
      have g7 := hg 7 _ rfl
      have g8 := hg 8 _ rfl
      have g9 := hg 9 _ rfl
      have g10 := hg 10 _ rfl
      have g11 := hg 11 _ rfl
      have g12 := hg 12 _ rfl
      have g13 := hg 13 _ rfl
      have g14 := hg 14 _ rfl
      have g15 := hg 15 _ rfl
      have g16 := hg 16 _ rfl
      have g17 := hg 17 _ rfl
      have g18 := hg 18 _ rfl
      have g19 := hg 19 _ rfl
      simp [cellsInt10, cellsI6410] at g0 g1 g2 g3 g4 g5 g6 g7 g8 g9 g10 g11 g12 g13 g14 g15 g16 g17 g18 g19
      obtain ⟨a0, e0, _, _⟩ := DataW.trod_int Try.underlying3 g0
      obtain ⟨a1, e1, _, _⟩ := DataW.trod_int Try.underlying3 g1
      obtain ⟨a2, e2, _, _⟩ := DataW.trod_int Try.underlying2 g2
      obtain ⟨a3, e3, _, _⟩ := DataW.trod_int Try.underlying3 g3
      obtain ⟨a4, e4, _, _⟩ := DataW.trod_int Try.underlying3 g4
      obtain ⟨a5, e5, _, _⟩ := DataW.trod_int Try.underlying3 g5
      obtain ⟨a6, e6, _, _⟩ := DataW.trod_int Try.underlying3 g6
      obtain ⟨a7, e7, _, _⟩ := DataW.trod_int Try.underlying3 g7
      obtain ⟨a8, e8, _, _⟩ := DataW.trod_int Try.underlying3 g8
      obtain ⟨a9, e9, _, _⟩ := DataW.trod_int Try.underlying3 g9
      obtain ⟨a10, e10, _, _⟩ := DataW.trod_int Try.underlying3 g10
      obtain ⟨a11, e11, _, _⟩ := DataW.trod_int Try.underlying3 g11
      obtain ⟨a12, e12, _, _⟩ := DataW.trod_int Try.underlying3 g12
      obtain ⟨a13, e13, _, _⟩ := DataW.trod_int Try.underlying3 g13
      obtain ⟨a14, e14, _, _⟩ := DataW.trod_int Try.underlying3 g14
      obtain ⟨a15, e15, _, _⟩ := DataW.trod_int Try.underlying3 g15
      obtain ⟨a16, e16, _, _⟩ := DataW.trod_int Try.underlying3 g16
      obtain ⟨a17, e17, _, _⟩ := DataW.trod_int Try.underlying3 g17
      obtain ⟨a18, e18, _, _⟩ := DataW.trod_int Try.underlying3 g18
      obtain ⟨a19, e19, _, _⟩ := DataW.trod_int Try.underlying3 g19
      simp at e0 e1 e2 e3 e4 e5 e6 e7 e8 e9 e10 e11 e12 e13 e14 e15 e16 e17 e18 e19
      subst e0 e1 e2 e3 e4 e5 e6 e7 e8 e9 e10 e11 e12 e13 e14 e15 e16 e17 e18 e19
      exact ⟨lst [a0, a1, a2, a3, a4, a5, a6, a7, a8, a9, a10, a11, a12, a13, a14, a15, a16, a17, a18, a19], rfl⟩
set_option maxHeartbeats 2000000 in
theorem weapon_open {H : Type} {enc : TypeId × Value → H} {w : World} {base : Nat} {spare : Nat → Bool} {held : Bool} {fuel : Nat} {cs : List Value} {x : DataW H × List MemPlace}
    (hf : DataW.trod enc Try.prog w base spare held fuel 51 cs = some x) : ∃ f : Nat → Int, ∃ b : Bool, cs = (wcs f b).toList := by
  obtain ⟨xs, n, _, _, hlen, hxl, hg⟩ := DataW.trod_struct Try.underlying51 hf
  match cs, hlen.trans cellsweapon_open with
  | [c0, c1, c2, c3, c4, c5], _ =>
    match xs, hxl with
    | [y0, y1, y2, y3, y4, y5], _ =>
      have g0 := hg 0 _ rfl
      have g1 := hg 1 _ rfl
      have g2 := hg 2 _ rfl
      have g3 := hg 3 _ rfl
      have g4 := hg 4 _ rfl
      have g5 := hg 5 _ rfl
      simp [cellsInt10, cellsI6410, cellsBool10] at g0 g1 g2 g3 g4 g5
      obtain ⟨a0, e0, _, _⟩ := DataW.trod_int Try.underlying3 g0
      obtain ⟨a1, e1, _, _⟩ := DataW.trod_int Try.underlying3 g1
      obtain ⟨a2, e2, _, _⟩ := DataW.trod_int Try.underlying2 g2
      obtain ⟨a3, e3, _, _⟩ := DataW.trod_int Try.underlying3 g3
      obtain ⟨a4, e4, _, _⟩ := DataW.trod_int Try.underlying3 g4
      obtain ⟨b, eb, _⟩ := DataW.trod_bool Try.underlying4 g5
      simp at e0 e1 e2 e3 e4 eb
      subst e0 e1 e2 e3 e4 eb
      exact ⟨lst [a0, a1, a2, a3, a4], b, rfl⟩

theorem add_add {b off i k : Nat} : ((⟨b, off, none⟩ : Addr).add i).add k = ⟨b, off + i + k, none⟩ := by unfold Addr.add; (repeat' split) <;> simp_all
theorem kinds_open {H : Type} {enc : TypeId × Value → H} {w : World} {base : Nat} {spare : Nat → Bool} {held : Bool} {fuel : Nat} {v : Value} {x : DataW H × List MemPlace}
    (hf : DataW.trod enc Try.prog w base spare held fuel 23 [v] = some x) : ∃ A n c K, v = .slice A n c ∧ Kn w A n K ∧ n ≤ c ∧ c ≤ maxLen := by
  rcases open_slice Try.underlying23 hf with ⟨hcs, _⟩ | ⟨a, l, c, m, n, D, Pl, hcs, hb, hl, hm, hme, _, hel⟩
  · injection hcs with hcs
    exact ⟨none, 0, 0, fun _ _ => 0, hcs, fun h => absurd h (by omega), Nat.le_refl _, by simp [maxLen]⟩
  · injection hcs with hcs
    obtain ⟨b, off, spot⟩ := a
    have hlm : l ≤ m := by rw [hme]; split <;> omega
    have each : ∀ i, i < l → ∃ f : Nat → Int, ∀ k, k < 20 → w.cell? (((⟨b, off, spot⟩ : Addr).add (i * 20)).add k) = some (.int .i64 (f k)) := by
      intro i hi
      obtain ⟨cs', h1, h2⟩ := hel i (by omega)
      obtain ⟨f, rfl⟩ := kind_open h2
      rw [cellskind_open] at h1
      exact ⟨f, fun k hk => by rw [(World.cells?_some h1).2.2 k hk, Array.getElem?_toList, kcs_at f k hk]⟩
    obtain ⟨K, hh⟩ := choose_lt each
    refine ⟨some ⟨b, off, spot⟩, l, c, K, hcs, fun h0 => ?_, hl, hm⟩
    have hc := hh 0 h0 0 (by omega)
    have hspot : spot = none := by simpa [Addr.add] using World.cell?_spot hc
    subst hspot
    refine ⟨b, off, rfl, by simpa [Addr.add] using World.block_lt_of_cell? w _ hc, fun i hi j hj => ?_⟩
    have q := hh i hi j hj
    rw [add_add] at q
    exact q
theorem weapons_open {H : Type} {enc : TypeId × Value → H} {w : World} {base : Nat} {spare : Nat → Bool} {held : Bool} {fuel : Nat} {v : Value} {x : DataW H × List MemPlace}
    (hf : DataW.trod enc Try.prog w base spare held fuel 24 [v] = some x) : ∃ A n c U F, v = .slice A n c ∧ Wn w A n U F ∧ n ≤ c ∧ c ≤ maxLen := by
  rcases open_slice Try.underlying24 hf with ⟨hcs, _⟩ | ⟨a, l, c, m, n, D, Pl, hcs, hb, hl, hm, hme, _, hel⟩
  · injection hcs with hcs
    exact ⟨none, 0, 0, fun _ _ => 0, fun _ => false, hcs, fun h => absurd h (by omega), Nat.le_refl _, by simp [maxLen]⟩
  · injection hcs with hcs
    obtain ⟨b, off, spot⟩ := a
    have hlm : l ≤ m := by rw [hme]; split <;> omega
    have each : ∀ i, i < l → ∃ y : (Nat → Int) × Bool, ∀ k, k < 6 → w.cell? (((⟨b, off, spot⟩ : Addr).add (i * 6)).add k) = (wcs y.1 y.2)[k]? := by
      intro i hi
      obtain ⟨cs', h1, h2⟩ := hel i (by omega)
      obtain ⟨f, fb, rfl⟩ := weapon_open h2
      rw [cellsweapon_open] at h1
      exact ⟨(f, fb), fun k hk => by rw [(World.cells?_some h1).2.2 k hk, Array.getElem?_toList]⟩
    obtain ⟨Y, hh⟩ := choose_lt each
    refine ⟨some ⟨b, off, spot⟩, l, c, fun i => (Y i).1, fun i => (Y i).2, hcs, fun h0 => ?_, hl, hm⟩
    have hc := hh 0 h0 0 (by omega)
    rw [wcs_at _ _ 0 (by decide)] at hc
    have hspot : spot = none := by simpa [Addr.add] using World.cell?_spot hc
    subst hspot
    refine ⟨b, off, rfl, by simpa [Addr.add] using World.block_lt_of_cell? w _ hc, fun i hi => ⟨fun j hj => ?_, ?_⟩⟩
    · have q := hh i hi j (by omega)
      rw [add_add, wcs_at _ _ j hj] at q
      exact q
    · have q := hh i hi 5 (by omega)
      rw [add_add] at q
      exact q
theorem bs_open {H : Type} {enc : TypeId × Value → H} {w : World} {base : Nat} {spare : Nat → Bool} {held : Bool} {fuel : Nat} {v : Value} {x : DataW H × List MemPlace}
    (hf : DataW.trod enc Try.prog w base spare held fuel 34 [v] = some x) :
    ∃ A n c p, v = .slice A n c ∧ Bs w A n p ∧ (∀ i, p i < 256) ∧ n ≤ c ∧ c ≤ maxLen := by
  rcases open_ints Try.underlying34 Try.underlying5 (by kernel_rfl) hf with ⟨hcs, _⟩ | ⟨a, l, c, zs, hcs, _, hl, hm, hz, _, hcell, hwz⟩
  · injection hcs with hcs
    exact ⟨none, 0, 0, fun _ => 0, hcs, fun h => absurd h (by omega), fun _ => by show 0 < 256; decide, Nat.le_refl _, by simp [maxLen]⟩
  · injection hcs with hcs
    have hw : ∀ i, 0 ≤ zs.getD i 0 ∧ zs.getD i 0 ≤ 255 := by
      intro i
      by_cases hi : i < zs.length
      · have h := hwz (zs.getD i 0) (by simp [List.getD, hi])
        simpa [Lit.wf, IntKind.min, IntKind.max, IntKind.signed, IntKind.bits] using h
      · have : zs.getD i 0 = 0 := by simp [List.getD, List.getElem?_eq_none (Nat.le_of_not_lt hi)]
        omega
    refine ⟨some a, l, c, fun i => (zs.getD i 0).toNat, hcs, ?_, fun i => by have := hw i; show (zs.getD i 0).toNat < 256; omega, hl, hm⟩
    intro h0
    obtain ⟨b, off, spot⟩ := a
    have hle : l ≤ zs.length := by rw [hz]; split <;> omega
    have hc := hcell 0 (by omega)
    have hspot : spot = none := by simpa [Addr.add] using World.cell?_spot hc
    subst hspot
    refine ⟨b, off, rfl, by simpa [Addr.add] using World.block_lt_of_cell? w _ hc, fun i hi => ?_⟩
    have h := hcell i (by omega)
    have e : (⟨b, off, none⟩ : Addr).add i = ⟨b, off + i, none⟩ := by unfold Addr.add; split <;> simp_all
    rw [e] at h
    rw [h]
    have := hw i
    congr 2
    show zs.getD i 0 = (((zs.getD i 0).toNat : Nat) : Int)
    omega

theorem book_open {H : Type} {enc : TypeId × Value → H} {w : World} {base : Nat} {spare : Nat → Bool} {held : Bool} {r : Reach} {b0 : Nat} {v : Value} {d : DataW H} {p : List MemPlace}
    (hv : Value.okWide Try.prog w r b0 26 v) (h : DataW.Trod enc Try.prog w base spare held 26 v d p) :
    ∃ A n c K A2 m c2 U F, v = .agg #[.slice A n c, .slice A2 m c2] ∧ Kn w A n K ∧ n ≤ c ∧ c ≤ maxLen ∧ Wn w A2 m U F ∧ m ≤ c2 ∧ c2 ≤ maxLen := by
  obtain ⟨cs, rfl, hsz⟩ := okWide_struct Try.underlying26 hv
  obtain ⟨l⟩ := cs
  match l, hsz.trans cellsBook10 with
  | [c0, c1], _ =>
    obtain ⟨fuel, hf⟩ := h
    obtain ⟨xs, n, _, hx, _, hlen, hg⟩ := DataW.trod_struct Try.underlying26 hf
    match xs, hlen with
    | [y0, y1], _ =>
      have g0 := hg 0 _ rfl
      have g1 := hg 1 _ rfl
      simp [Value.cells, cellsKinds10, cellsWeapons10] at g0 g1
      obtain ⟨A, n, c, K, rfl, hK, l1, l2⟩ := kinds_open g0
      obtain ⟨A2, m, c2, U, F, rfl, hW, l3, l4⟩ := weapons_open g1
      exact ⟨_, _, _, K, _, _, _, U, F, rfl, hK, l1, l2, hW, l3, l4⟩
end Go.Proofs.Ytpgifcgidelmaaa
