/- Contracts of package kinds: the reader's head, kind and weapon. -/
import Derived.Test.YtpgifcgidelmaaaKg2
namespace Go.Proofs.Ytpgifcgidelmaaa
open Go.RowKit
set_option linter.unusedVariables false

/-- The kind whose bytes begin at q; the weapon, and whether it goes under water. -/
theorem kcs_lst (a0 a1 a2 a3 a4 a5 a6 a7 a8 a9 a10 a11 a12 a13 a14 a15 a16 a17 a18 a19 : Int) : kcs (lst [a0, a1, a2, a3, a4, a5, a6, a7, a8, a9, a10, a11, a12, a13, a14, a15, a16, a17, a18, a19]) = #[.int .i64 a0, .int .i64 a1, .int .i64 a2, .int .i64 a3, .int .i64 a4, .int .i64 a5, .int .i64 a6, .int .i64 a7, .int .i64 a8, .int .i64 a9, .int .i64 a10, .int .i64 a11, .int .i64 a12, .int .i64 a13, .int .i64 a14, .int .i64 a15, .int .i64 a16, .int .i64 a17, .int .i64 a18, .int .i64 a19] := rfl
theorem wcs_lst (a0 a1 a2 a3 a4 : Int) (b : Bool) : wcs (lst [a0, a1, a2, a3, a4]) b = #[.int .i64 a0, .int .i64 a1, .int .i64 a2, .int .i64 a3, .int .i64 a4, .bool b] := rfl
noncomputable def dk (p : Nat → Nat) (q : Nat) : Nat → Int := lst [((num p q 1 : Nat) : Int), ((num p (q + 1) 2 : Nat) : Int), ofV (num p (q + 27) 8), ((num p (q + 3) 2 : Nat) : Int), ((num p (q + 17) 1 : Nat) : Int), ((num p (q + 18) 1 : Nat) : Int), ((num p (q + 19) 1 : Nat) : Int), ((num p (q + 20) 1 : Nat) : Int), ((num p (q + 5) 2 : Nat) : Int), ((num p (q + 7) 2 : Nat) : Int), ((num p (q + 9) 2 : Nat) : Int), ((num p (q + 21) 1 : Nat) : Int), ((num p (q + 22) 1 : Nat) : Int), ((num p (q + 23) 1 : Nat) : Int), ((num p (q + 11) 2 : Nat) : Int), ((num p (q + 13) 2 : Nat) : Int), ((num p (q + 24) 1 : Nat) : Int), ((num p (q + 25) 1 : Nat) : Int), ((num p (q + 26) 1 : Nat) : Int), ((num p (q + 15) 2 : Nat) : Int)]
noncomputable def dw (p : Nat → Nat) (q : Nat) : Nat → Int := lst [((num p (q + 2) 1 : Nat) : Int), ((num p q 2 : Nat) : Int), ofV (num p (q + 6) 8), ((num p (q + 3) 1 : Nat) : Int), ((num p (q + 4) 1 : Nat) : Int)]
def du (p : Nat → Nat) (q : Nat) : Bool := num p (q + 5) 1 == 1
theorem dk_cells (p : Nat → Nat) (q : Nat) : kcs (dk p q) = #[.int .i64 ((num p q 1 : Nat) : Int), .int .i64 ((num p (q + 1) 2 : Nat) : Int), .int .i64 (ofV (num p (q + 27) 8)), .int .i64 ((num p (q + 3) 2 : Nat) : Int), .int .i64 ((num p (q + 17) 1 : Nat) : Int), .int .i64 ((num p (q + 18) 1 : Nat) : Int), .int .i64 ((num p (q + 19) 1 : Nat) : Int), .int .i64 ((num p (q + 20) 1 : Nat) : Int), .int .i64 ((num p (q + 5) 2 : Nat) : Int), .int .i64 ((num p (q + 7) 2 : Nat) : Int), .int .i64 ((num p (q + 9) 2 : Nat) : Int), .int .i64 ((num p (q + 21) 1 : Nat) : Int), .int .i64 ((num p (q + 22) 1 : Nat) : Int), .int .i64 ((num p (q + 23) 1 : Nat) : Int), .int .i64 ((num p (q + 11) 2 : Nat) : Int), .int .i64 ((num p (q + 13) 2 : Nat) : Int), .int .i64 ((num p (q + 24) 1 : Nat) : Int), .int .i64 ((num p (q + 25) 1 : Nat) : Int), .int .i64 ((num p (q + 26) 1 : Nat) : Int), .int .i64 ((num p (q + 15) 2 : Nat) : Int)] := kcs_lst _ _ _ _ _ _ _ _ _ _ _ _ _ _ _ _ _ _ _ _
theorem dw_cells (p : Nat → Nat) (q : Nat) : wcs (dw p q) (du p q) = #[.int .i64 ((num p (q + 2) 1 : Nat) : Int), .int .i64 ((num p q 2 : Nat) : Int), .int .i64 (ofV (num p (q + 6) 8)), .int .i64 ((num p (q + 3) 1 : Nat) : Int), .int .i64 ((num p (q + 4) 1 : Nat) : Int), .bool (num p (q + 5) 1 == 1)] := wcs_lst _ _ _ _ _ _

/-- A frame over a reader: nothing older than w has turned but the reader; a box of its own. -/
structure Rs (w : World) (g : Nat) (A : Option Addr) (N c : Nat) (p : Nat → Nat) (z : Nat) (zt : TypeId) (zc : Array Value) (W : World) (q : Nat) : Prop where
  rd : Rd W g A N c q
  bs : Bs W A N p
  grown : w.grownBy W (some g)
  blk : W.heap[z]? = some (.cells zc zt (0, 0))
  hz : w.heap.size ≤ z
  hg : g < w.heap.size
theorem Rs.new {w : World} {g : Nat} {A : Option Addr} {N c q : Nat} {p : Nat → Nat} (hR : Rd w g A N c q) (hB : Bs w A N p) (zt : TypeId) (zc : Array Value) : Rs w g A N c p w.heap.size zt zc (w.alloc (.cells zc zt)) q :=
  ⟨hR.keep (below_box _), hB.keep (below_box _), grownBy_below (below_box _) _, alloc_blk _ _ _, Nat.le_refl _, hR.lt⟩
theorem Rs.step {w : World} {g : Nat} {A : Option Addr} {N c : Nat} {p : Nat → Nat} {z : Nat} {zt : TypeId} {zc : Array Value} {W W' : World} {q q' : Nat} (h : Rs w g A N c p z zt zc W q) (hr : Rd W' g A N c q') (hg : W.grownBy W' (some g)) : Rs w g A N c p z zt zc W' q' :=
  ⟨hr, h.bs.grown hg (h.rd.ne h.bs), grown_trans h.grown hg, (hg.block z (Array.getElem?_eq_some_iff.1 h.blk).1 (fun e => by injection e with e; have := h.hz; have := h.hg; omega)).trans h.blk, h.hz, h.hg⟩
theorem setRow_grown {w W : World} {row : Option Nat} {z : Nat} {c : Array Value} (h : w.grownBy W row) (hz : w.heap.size ≤ z) : w.grownBy (W.setRow z c) row :=
  ⟨h.os, h.tape, h.output, by rw [show (W.setRow z c).heap.size = W.heap.size by simp [World.setRow]]; exact h.size, fun k hk hne => (setRow_other W z k c (by omega)).trans (h.block k hk hne)⟩

set_option maxRecDepth 100000 in
set_option maxHeartbeats 4000000 in
theorem kind_ok (g N c q : Nat) (A : Option Addr) (p : Nat → Nat) (w : World) (hR : Rd w g A N c q) (hB : Bs w A N p) (hp : ∀ i, p i < 256) (h1 : ofE (num p (q + 27) 8) = 0) (hq : q + 35 ≤ N) (hc : N ≤ c) (hm : c ≤ maxLen) :
    Calls Try.prog 38 #[.pointer (some ⟨g, 0, none⟩)] w fun e w' => e = .returned (.agg (kcs (dk p q))) ∧ Rd w' g A N c (q + 35) ∧ w.grownBy w' (some g) := by
  have HP := Lib.hid hp
  have H1 := Lib.hid h1
  have HQ := Lib.hid hq
  have HC := Lib.hid hc
  have HM := Lib.hid hm
  have X := Lib.hid (Rs.new hR hB 46 (kcs (fun _ => 0)))
  clear hR hB hp h1 hq hc hm
  go_enter Try.func38, Try.ntmps38
  go_upto_region 1 with fail
  generalize w.alloc (.cells (kcs (fun _ => 0)) 46) = w0 at *
  go_wp2_with fail
  refine (number_any g N c q 1 A p _ X.out.rd X.out.bs HP.out (by decide) (by decide) (by have := HQ.out; omega) HC.out HM.out).mono ?_
  rintro e w1 ⟨rfl, r1, g1⟩
  have Y : Hid (Rs w g A N c p w.heap.size 46 (kcs (fun _ => 0)) w1 (q + 1)) := X.out.step r1 g1
  clear r1 g1 X
  have X := Y
  clear Y
  go_wp2_with fail
  refine (number_any g N c (q + 1) 2 A p _ X.out.rd X.out.bs HP.out (by decide) (by decide) (by have := HQ.out; omega) HC.out HM.out).mono ?_
  rintro e w2 ⟨rfl, r1, g1⟩
  have Y : Hid (Rs w g A N c p w.heap.size 46 (kcs (fun _ => 0)) w2 (q + 3)) := X.out.step r1 g1
  clear r1 g1 X
  have X := Y
  clear Y
  go_wp2_with fail
  refine (number_any g N c (q + 3) 2 A p _ X.out.rd X.out.bs HP.out (by decide) (by decide) (by have := HQ.out; omega) HC.out HM.out).mono ?_
  rintro e w3 ⟨rfl, r1, g1⟩
  have Y : Hid (Rs w g A N c p w.heap.size 46 (kcs (fun _ => 0)) w3 (q + 5)) := X.out.step r1 g1
  clear r1 g1 X
  have X := Y
  clear Y
  go_wp2_with fail
  refine (number_any g N c (q + 5) 2 A p _ X.out.rd X.out.bs HP.out (by decide) (by decide) (by have := HQ.out; omega) HC.out HM.out).mono ?_
  rintro e w4 ⟨rfl, r1, g1⟩
  have Y : Hid (Rs w g A N c p w.heap.size 46 (kcs (fun _ => 0)) w4 (q + 7)) := X.out.step r1 g1
  clear r1 g1 X
  have X := Y
  clear Y
  go_wp2_with fail
  refine (number_any g N c (q + 7) 2 A p _ X.out.rd X.out.bs HP.out (by decide) (by decide) (by have := HQ.out; omega) HC.out HM.out).mono ?_
  rintro e w5 ⟨rfl, r1, g1⟩
  have Y : Hid (Rs w g A N c p w.heap.size 46 (kcs (fun _ => 0)) w5 (q + 9)) := X.out.step r1 g1
  clear r1 g1 X
  have X := Y
  clear Y
  go_wp2_with fail
  refine (number_any g N c (q + 9) 2 A p _ X.out.rd X.out.bs HP.out (by decide) (by decide) (by have := HQ.out; omega) HC.out HM.out).mono ?_
  rintro e w6 ⟨rfl, r1, g1⟩
  have Y : Hid (Rs w g A N c p w.heap.size 46 (kcs (fun _ => 0)) w6 (q + 11)) := X.out.step r1 g1
  clear r1 g1 X
  have X := Y
  clear Y
  go_wp2_with fail
  refine (number_any g N c (q + 11) 2 A p _ X.out.rd X.out.bs HP.out (by decide) (by decide) (by have := HQ.out; omega) HC.out HM.out).mono ?_
  rintro e w7 ⟨rfl, r1, g1⟩
  have Y : Hid (Rs w g A N c p w.heap.size 46 (kcs (fun _ => 0)) w7 (q + 13)) := X.out.step r1 g1
  clear r1 g1 X
  have X := Y
  clear Y
  go_wp2_with fail
  refine (number_any g N c (q + 13) 2 A p _ X.out.rd X.out.bs HP.out (by decide) (by decide) (by have := HQ.out; omega) HC.out HM.out).mono ?_
  rintro e w8 ⟨rfl, r1, g1⟩
  have Y : Hid (Rs w g A N c p w.heap.size 46 (kcs (fun _ => 0)) w8 (q + 15)) := X.out.step r1 g1
  clear r1 g1 X
  have X := Y
  clear Y
  go_wp2_with fail
  refine (number_any g N c (q + 15) 2 A p _ X.out.rd X.out.bs HP.out (by decide) (by decide) (by have := HQ.out; omega) HC.out HM.out).mono ?_
  rintro e w9 ⟨rfl, r1, g1⟩
  have Y : Hid (Rs w g A N c p w.heap.size 46 (kcs (fun _ => 0)) w9 (q + 17)) := X.out.step r1 g1
  clear r1 g1 X
  have X := Y
  clear Y
  go_wp2_with fail
  refine (number_any g N c (q + 17) 1 A p _ X.out.rd X.out.bs HP.out (by decide) (by decide) (by have := HQ.out; omega) HC.out HM.out).mono ?_
  rintro e w10 ⟨rfl, r1, g1⟩
  have Y : Hid (Rs w g A N c p w.heap.size 46 (kcs (fun _ => 0)) w10 (q + 18)) := X.out.step r1 g1
  clear r1 g1 X
  have X := Y
  clear Y
  go_wp2_with fail
  refine (number_any g N c (q + 18) 1 A p _ X.out.rd X.out.bs HP.out (by decide) (by decide) (by have := HQ.out; omega) HC.out HM.out).mono ?_
  rintro e w11 ⟨rfl, r1, g1⟩
  have Y : Hid (Rs w g A N c p w.heap.size 46 (kcs (fun _ => 0)) w11 (q + 19)) := X.out.step r1 g1
  clear r1 g1 X
  have X := Y
  clear Y
  go_wp2_with fail
  refine (number_any g N c (q + 19) 1 A p _ X.out.rd X.out.bs HP.out (by decide) (by decide) (by have := HQ.out; omega) HC.out HM.out).mono ?_
  rintro e w12 ⟨rfl, r1, g1⟩
  have Y : Hid (Rs w g A N c p w.heap.size 46 (kcs (fun _ => 0)) w12 (q + 20)) := X.out.step r1 g1
  clear r1 g1 X
  have X := Y
  clear Y
  go_wp2_with fail
  refine (number_any g N c (q + 20) 1 A p _ X.out.rd X.out.bs HP.out (by decide) (by decide) (by have := HQ.out; omega) HC.out HM.out).mono ?_
  rintro e w13 ⟨rfl, r1, g1⟩
  have Y : Hid (Rs w g A N c p w.heap.size 46 (kcs (fun _ => 0)) w13 (q + 21)) := X.out.step r1 g1
  clear r1 g1 X
  have X := Y
  clear Y
  go_wp2_with fail
  refine (number_any g N c (q + 21) 1 A p _ X.out.rd X.out.bs HP.out (by decide) (by decide) (by have := HQ.out; omega) HC.out HM.out).mono ?_
  rintro e w14 ⟨rfl, r1, g1⟩
  have Y : Hid (Rs w g A N c p w.heap.size 46 (kcs (fun _ => 0)) w14 (q + 22)) := X.out.step r1 g1
  clear r1 g1 X
  have X := Y
  clear Y
  go_wp2_with fail
  refine (number_any g N c (q + 22) 1 A p _ X.out.rd X.out.bs HP.out (by decide) (by decide) (by have := HQ.out; omega) HC.out HM.out).mono ?_
  rintro e w15 ⟨rfl, r1, g1⟩
  have Y : Hid (Rs w g A N c p w.heap.size 46 (kcs (fun _ => 0)) w15 (q + 23)) := X.out.step r1 g1
  clear r1 g1 X
  have X := Y
  clear Y
  go_wp2_with fail
  refine (number_any g N c (q + 23) 1 A p _ X.out.rd X.out.bs HP.out (by decide) (by decide) (by have := HQ.out; omega) HC.out HM.out).mono ?_
  rintro e w16 ⟨rfl, r1, g1⟩
  have Y : Hid (Rs w g A N c p w.heap.size 46 (kcs (fun _ => 0)) w16 (q + 24)) := X.out.step r1 g1
  clear r1 g1 X
  have X := Y
  clear Y
  go_wp2_with fail
  refine (number_any g N c (q + 24) 1 A p _ X.out.rd X.out.bs HP.out (by decide) (by decide) (by have := HQ.out; omega) HC.out HM.out).mono ?_
  rintro e w17 ⟨rfl, r1, g1⟩
  have Y : Hid (Rs w g A N c p w.heap.size 46 (kcs (fun _ => 0)) w17 (q + 25)) := X.out.step r1 g1
  clear r1 g1 X
  have X := Y
  clear Y
  go_wp2_with fail
  refine (number_any g N c (q + 25) 1 A p _ X.out.rd X.out.bs HP.out (by decide) (by decide) (by have := HQ.out; omega) HC.out HM.out).mono ?_
  rintro e w18 ⟨rfl, r1, g1⟩
  have Y : Hid (Rs w g A N c p w.heap.size 46 (kcs (fun _ => 0)) w18 (q + 26)) := X.out.step r1 g1
  clear r1 g1 X
  have X := Y
  clear Y
  go_wp2_with fail
  refine (number_any g N c (q + 26) 1 A p _ X.out.rd X.out.bs HP.out (by decide) (by decide) (by have := HQ.out; omega) HC.out HM.out).mono ?_
  rintro e w19 ⟨rfl, r1, g1⟩
  have Y : Hid (Rs w g A N c p w.heap.size 46 (kcs (fun _ => 0)) w19 (q + 27)) := X.out.step r1 g1
  clear r1 g1 X
  have X := Y
  clear Y
  go_wp2_with fail
  refine (speed_ok g N c (q + 27) A p _ X.out.rd X.out.bs HP.out H1.out (by have := HQ.out; omega) HC.out HM.out).mono ?_
  rintro e w20 ⟨rfl, r1, g1⟩
  have Y : Hid (Rs w g A N c p w.heap.size 46 (kcs (fun _ => 0)) w20 (q + 27 + 8)) := X.out.step r1 g1
  clear r1 g1 X
  have X := Y
  clear Y
  have HZ := Lib.hid X.out.blk
  go_wp2_with (refine wpList_store_blk (c' := kcs (dk p q)) Try.sizeKind HZ.out rfl rfl rfl (by rw [dk_cells]; rfl) rfl rfl (kcs_one _) ?_)
  have hfin : (w20.setRow w.heap.size (kcs (dk p q))).heap[w.heap.size]? = some (.cells (kcs (dk p q)) 46 (0, 0)) := setRow_heap w20 w.heap.size _ _ _ _ HZ.out
  refine bodyPost_ret (v := .agg (kcs (dk p q))) (results_cell_row rfl _ _ w.heap.size 46 _ (0, 0) _ rfl hfin Try.underlying46 rfl Try.sizeKind) rfl ?_
  refine ⟨rfl, ?_, setRow_grown X.out.grown X.out.hz⟩
  exact (setRow_other w20 w.heap.size g _ (by have := X.out.hg; omega)).trans X.out.rd

set_option maxRecDepth 100000 in
set_option maxHeartbeats 4000000 in
theorem kind_bad (g N c q : Nat) (A : Option Addr) (p : Nat → Nat) (w : World) (hR : Rd w g A N c q) (hB : Bs w A N p) (hp : ∀ i, p i < 256) (h1 : ofE (num p (q + 27) 8) ≠ 0) (hq : q + 35 ≤ N) (hc : N ≤ c) (hm : c ≤ maxLen) :
    Calls Try.prog 38 #[.pointer (some ⟨g, 0, none⟩)] w fun e w' => e = .panicked (Flt (ofE (num p (q + 27) 8)) ((q + 27 : Nat) : Int)) ∧ w.grownBy w' (some g) := by
  have HP := Lib.hid hp
  have H1 := Lib.hid h1
  have HQ := Lib.hid hq
  have HC := Lib.hid hc
  have HM := Lib.hid hm
  have X := Lib.hid (Rs.new hR hB 46 (kcs (fun _ => 0)))
  clear hR hB hp h1 hq hc hm
  go_enter Try.func38, Try.ntmps38
  go_upto_region 1 with fail
  generalize w.alloc (.cells (kcs (fun _ => 0)) 46) = w0 at *
  go_wp2_with fail
  refine (number_any g N c q 1 A p _ X.out.rd X.out.bs HP.out (by decide) (by decide) (by have := HQ.out; omega) HC.out HM.out).mono ?_
  rintro e w1 ⟨rfl, r1, g1⟩
  have Y : Hid (Rs w g A N c p w.heap.size 46 (kcs (fun _ => 0)) w1 (q + 1)) := X.out.step r1 g1
  clear r1 g1 X
  have X := Y
  clear Y
  go_wp2_with fail
  refine (number_any g N c (q + 1) 2 A p _ X.out.rd X.out.bs HP.out (by decide) (by decide) (by have := HQ.out; omega) HC.out HM.out).mono ?_
  rintro e w2 ⟨rfl, r1, g1⟩
  have Y : Hid (Rs w g A N c p w.heap.size 46 (kcs (fun _ => 0)) w2 (q + 3)) := X.out.step r1 g1
  clear r1 g1 X
  have X := Y
  clear Y
  go_wp2_with fail
  refine (number_any g N c (q + 3) 2 A p _ X.out.rd X.out.bs HP.out (by decide) (by decide) (by have := HQ.out; omega) HC.out HM.out).mono ?_
  rintro e w3 ⟨rfl, r1, g1⟩
  have Y : Hid (Rs w g A N c p w.heap.size 46 (kcs (fun _ => 0)) w3 (q + 5)) := X.out.step r1 g1
  clear r1 g1 X
  have X := Y
  clear Y
  go_wp2_with fail
  refine (number_any g N c (q + 5) 2 A p _ X.out.rd X.out.bs HP.out (by decide) (by decide) (by have := HQ.out; omega) HC.out HM.out).mono ?_
  rintro e w4 ⟨rfl, r1, g1⟩
  have Y : Hid (Rs w g A N c p w.heap.size 46 (kcs (fun _ => 0)) w4 (q + 7)) := X.out.step r1 g1
  clear r1 g1 X
  have X := Y
  clear Y
  go_wp2_with fail
  refine (number_any g N c (q + 7) 2 A p _ X.out.rd X.out.bs HP.out (by decide) (by decide) (by have := HQ.out; omega) HC.out HM.out).mono ?_
  rintro e w5 ⟨rfl, r1, g1⟩
  have Y : Hid (Rs w g A N c p w.heap.size 46 (kcs (fun _ => 0)) w5 (q + 9)) := X.out.step r1 g1
  clear r1 g1 X
  have X := Y
  clear Y
  go_wp2_with fail
  refine (number_any g N c (q + 9) 2 A p _ X.out.rd X.out.bs HP.out (by decide) (by decide) (by have := HQ.out; omega) HC.out HM.out).mono ?_
  rintro e w6 ⟨rfl, r1, g1⟩
  have Y : Hid (Rs w g A N c p w.heap.size 46 (kcs (fun _ => 0)) w6 (q + 11)) := X.out.step r1 g1
  clear r1 g1 X
  have X := Y
  clear Y
  go_wp2_with fail
  refine (number_any g N c (q + 11) 2 A p _ X.out.rd X.out.bs HP.out (by decide) (by decide) (by have := HQ.out; omega) HC.out HM.out).mono ?_
  rintro e w7 ⟨rfl, r1, g1⟩
  have Y : Hid (Rs w g A N c p w.heap.size 46 (kcs (fun _ => 0)) w7 (q + 13)) := X.out.step r1 g1
  clear r1 g1 X
  have X := Y
  clear Y
  go_wp2_with fail
  refine (number_any g N c (q + 13) 2 A p _ X.out.rd X.out.bs HP.out (by decide) (by decide) (by have := HQ.out; omega) HC.out HM.out).mono ?_
  rintro e w8 ⟨rfl, r1, g1⟩
  have Y : Hid (Rs w g A N c p w.heap.size 46 (kcs (fun _ => 0)) w8 (q + 15)) := X.out.step r1 g1
  clear r1 g1 X
  have X := Y
  clear Y
  go_wp2_with fail
  refine (number_any g N c (q + 15) 2 A p _ X.out.rd X.out.bs HP.out (by decide) (by decide) (by have := HQ.out; omega) HC.out HM.out).mono ?_
  rintro e w9 ⟨rfl, r1, g1⟩
  have Y : Hid (Rs w g A N c p w.heap.size 46 (kcs (fun _ => 0)) w9 (q + 17)) := X.out.step r1 g1
  clear r1 g1 X
  have X := Y
  clear Y
  go_wp2_with fail
  refine (number_any g N c (q + 17) 1 A p _ X.out.rd X.out.bs HP.out (by decide) (by decide) (by have := HQ.out; omega) HC.out HM.out).mono ?_
  rintro e w10 ⟨rfl, r1, g1⟩
  have Y : Hid (Rs w g A N c p w.heap.size 46 (kcs (fun _ => 0)) w10 (q + 18)) := X.out.step r1 g1
  clear r1 g1 X
  have X := Y
  clear Y
  go_wp2_with fail
  refine (number_any g N c (q + 18) 1 A p _ X.out.rd X.out.bs HP.out (by decide) (by decide) (by have := HQ.out; omega) HC.out HM.out).mono ?_
  rintro e w11 ⟨rfl, r1, g1⟩
  have Y : Hid (Rs w g A N c p w.heap.size 46 (kcs (fun _ => 0)) w11 (q + 19)) := X.out.step r1 g1
  clear r1 g1 X
  have X := Y
  clear Y
  go_wp2_with fail
  refine (number_any g N c (q + 19) 1 A p _ X.out.rd X.out.bs HP.out (by decide) (by decide) (by have := HQ.out; omega) HC.out HM.out).mono ?_
  rintro e w12 ⟨rfl, r1, g1⟩
  have Y : Hid (Rs w g A N c p w.heap.size 46 (kcs (fun _ => 0)) w12 (q + 20)) := X.out.step r1 g1
  clear r1 g1 X
  have X := Y
  clear Y
  go_wp2_with fail
  refine (number_any g N c (q + 20) 1 A p _ X.out.rd X.out.bs HP.out (by decide) (by decide) (by have := HQ.out; omega) HC.out HM.out).mono ?_
  rintro e w13 ⟨rfl, r1, g1⟩
  have Y : Hid (Rs w g A N c p w.heap.size 46 (kcs (fun _ => 0)) w13 (q + 21)) := X.out.step r1 g1
  clear r1 g1 X
  have X := Y
  clear Y
  go_wp2_with fail
  refine (number_any g N c (q + 21) 1 A p _ X.out.rd X.out.bs HP.out (by decide) (by decide) (by have := HQ.out; omega) HC.out HM.out).mono ?_
  rintro e w14 ⟨rfl, r1, g1⟩
  have Y : Hid (Rs w g A N c p w.heap.size 46 (kcs (fun _ => 0)) w14 (q + 22)) := X.out.step r1 g1
  clear r1 g1 X
  have X := Y
  clear Y
  go_wp2_with fail
  refine (number_any g N c (q + 22) 1 A p _ X.out.rd X.out.bs HP.out (by decide) (by decide) (by have := HQ.out; omega) HC.out HM.out).mono ?_
  rintro e w15 ⟨rfl, r1, g1⟩
  have Y : Hid (Rs w g A N c p w.heap.size 46 (kcs (fun _ => 0)) w15 (q + 23)) := X.out.step r1 g1
  clear r1 g1 X
  have X := Y
  clear Y
  go_wp2_with fail
  refine (number_any g N c (q + 23) 1 A p _ X.out.rd X.out.bs HP.out (by decide) (by decide) (by have := HQ.out; omega) HC.out HM.out).mono ?_
  rintro e w16 ⟨rfl, r1, g1⟩
  have Y : Hid (Rs w g A N c p w.heap.size 46 (kcs (fun _ => 0)) w16 (q + 24)) := X.out.step r1 g1
  clear r1 g1 X
  have X := Y
  clear Y
  go_wp2_with fail
  refine (number_any g N c (q + 24) 1 A p _ X.out.rd X.out.bs HP.out (by decide) (by decide) (by have := HQ.out; omega) HC.out HM.out).mono ?_
  rintro e w17 ⟨rfl, r1, g1⟩
  have Y : Hid (Rs w g A N c p w.heap.size 46 (kcs (fun _ => 0)) w17 (q + 25)) := X.out.step r1 g1
  clear r1 g1 X
  have X := Y
  clear Y
  go_wp2_with fail
  refine (number_any g N c (q + 25) 1 A p _ X.out.rd X.out.bs HP.out (by decide) (by decide) (by have := HQ.out; omega) HC.out HM.out).mono ?_
  rintro e w18 ⟨rfl, r1, g1⟩
  have Y : Hid (Rs w g A N c p w.heap.size 46 (kcs (fun _ => 0)) w18 (q + 26)) := X.out.step r1 g1
  clear r1 g1 X
  have X := Y
  clear Y
  go_wp2_with fail
  refine (number_any g N c (q + 26) 1 A p _ X.out.rd X.out.bs HP.out (by decide) (by decide) (by have := HQ.out; omega) HC.out HM.out).mono ?_
  rintro e w19 ⟨rfl, r1, g1⟩
  have Y : Hid (Rs w g A N c p w.heap.size 46 (kcs (fun _ => 0)) w19 (q + 27)) := X.out.step r1 g1
  clear r1 g1 X
  have X := Y
  clear Y
  go_wp2_with fail
  refine (speed_bad g N c (q + 27) A p _ X.out.rd X.out.bs HP.out H1.out (by have := HQ.out; omega) HC.out HM.out).mono ?_
  rintro e w20 ⟨rfl, g1⟩
  have Y := Lib.hid (grown_trans X.out.grown g1)
  clear g1 X
  go_wp2
  exact ⟨rfl, rfl, Y.out⟩

set_option maxRecDepth 100000 in
set_option maxHeartbeats 4000000 in
theorem weapon_ok (g N c q : Nat) (A : Option Addr) (p : Nat → Nat) (w : World) (hR : Rd w g A N c q) (hB : Bs w A N p) (hp : ∀ i, p i < 256) (h1 : num p (q + 5) 1 ≤ 1 ∧ ofE (num p (q + 6) 8) = 0) (hq : q + 14 ≤ N) (hc : N ≤ c) (hm : c ≤ maxLen) :
    Calls Try.prog 39 #[.pointer (some ⟨g, 0, none⟩)] w fun e w' => e = .returned (.agg (wcs (dw p q) (du p q))) ∧ Rd w' g A N c (q + 14) ∧ w.grownBy w' (some g) := by
  have HP := Lib.hid hp
  have H1 := Lib.hid h1
  have HQ := Lib.hid hq
  have HC := Lib.hid hc
  have HM := Lib.hid hm
  have X := Lib.hid (Rs.new hR hB 51 (wcs (fun _ => 0) false))
  clear hR hB hp h1 hq hc hm
  go_enter Try.func39, Try.ntmps39
  go_upto_region 1 with fail
  generalize w.alloc (.cells (wcs (fun _ => 0) false) 51) = w0 at *
  go_wp2_with fail
  refine (number_any g N c q 2 A p _ X.out.rd X.out.bs HP.out (by decide) (by decide) (by have := HQ.out; omega) HC.out HM.out).mono ?_
  rintro e w1 ⟨rfl, r1, g1⟩
  have Y : Hid (Rs w g A N c p w.heap.size 51 (wcs (fun _ => 0) false) w1 (q + 2)) := X.out.step r1 g1
  clear r1 g1 X
  have X := Y
  clear Y
  go_wp2_with fail
  refine (number_any g N c (q + 2) 1 A p _ X.out.rd X.out.bs HP.out (by decide) (by decide) (by have := HQ.out; omega) HC.out HM.out).mono ?_
  rintro e w2 ⟨rfl, r1, g1⟩
  have Y : Hid (Rs w g A N c p w.heap.size 51 (wcs (fun _ => 0) false) w2 (q + 3)) := X.out.step r1 g1
  clear r1 g1 X
  have X := Y
  clear Y
  go_wp2_with fail
  refine (number_any g N c (q + 3) 1 A p _ X.out.rd X.out.bs HP.out (by decide) (by decide) (by have := HQ.out; omega) HC.out HM.out).mono ?_
  rintro e w3 ⟨rfl, r1, g1⟩
  have Y : Hid (Rs w g A N c p w.heap.size 51 (wcs (fun _ => 0) false) w3 (q + 4)) := X.out.step r1 g1
  clear r1 g1 X
  have X := Y
  clear Y
  go_wp2_with fail
  refine (number_any g N c (q + 4) 1 A p _ X.out.rd X.out.bs HP.out (by decide) (by decide) (by have := HQ.out; omega) HC.out HM.out).mono ?_
  rintro e w4 ⟨rfl, r1, g1⟩
  have Y : Hid (Rs w g A N c p w.heap.size 51 (wcs (fun _ => 0) false) w4 (q + 5)) := X.out.step r1 g1
  clear r1 g1 X
  have X := Y
  clear Y
  go_wp2_with fail
  refine (flag_ok g N c (q + 5) A p _ X.out.rd X.out.bs HP.out H1.out.1 (by have := HQ.out; omega) HC.out HM.out).mono ?_
  rintro e w5 ⟨rfl, r1, g1⟩
  have Y : Hid (Rs w g A N c p w.heap.size 51 (wcs (fun _ => 0) false) w5 (q + 6)) := X.out.step r1 g1
  clear r1 g1 X
  have X := Y
  clear Y
  go_wp2_with fail
  refine (speed_ok g N c (q + 6) A p _ X.out.rd X.out.bs HP.out H1.out.2 (by have := HQ.out; omega) HC.out HM.out).mono ?_
  rintro e w20 ⟨rfl, r1, g1⟩
  have Y : Hid (Rs w g A N c p w.heap.size 51 (wcs (fun _ => 0) false) w20 (q + 6 + 8)) := X.out.step r1 g1
  clear r1 g1 X
  have X := Y
  clear Y
  have HZ := Lib.hid X.out.blk
  go_wp2_with (refine wpList_store_blk (c' := wcs (dw p q) (du p q)) Try.sizeWeapon HZ.out rfl rfl rfl (by rw [dw_cells]; rfl) rfl rfl (wcs_one _ _) ?_)
  have hfin : (w20.setRow w.heap.size (wcs (dw p q) (du p q))).heap[w.heap.size]? = some (.cells (wcs (dw p q) (du p q)) 51 (0, 0)) := setRow_heap w20 w.heap.size _ _ _ _ HZ.out
  refine bodyPost_ret (v := .agg (wcs (dw p q) (du p q))) (results_cell_row rfl _ _ w.heap.size 51 _ (0, 0) _ rfl hfin Try.underlying51 rfl Try.sizeWeapon) rfl ?_
  refine ⟨rfl, ?_, setRow_grown X.out.grown X.out.hz⟩
  exact (setRow_other w20 w.heap.size g _ (by have := X.out.hg; omega)).trans X.out.rd

set_option maxRecDepth 100000 in
set_option maxHeartbeats 4000000 in
theorem weapon_under (g N c q : Nat) (A : Option Addr) (p : Nat → Nat) (w : World) (hR : Rd w g A N c q) (hB : Bs w A N p) (hp : ∀ i, p i < 256) (h1 : 1 < num p (q + 5) 1) (hq : q + 14 ≤ N) (hc : N ≤ c) (hm : c ≤ maxLen) :
    Calls Try.prog 39 #[.pointer (some ⟨g, 0, none⟩)] w fun e w' => e = .panicked (Flt 3 ((q + 5 : Nat) : Int)) ∧ w.grownBy w' (some g) := by
  have HP := Lib.hid hp
  have H1 := Lib.hid h1
  have HQ := Lib.hid hq
  have HC := Lib.hid hc
  have HM := Lib.hid hm
  have X := Lib.hid (Rs.new hR hB 51 (wcs (fun _ => 0) false))
  clear hR hB hp h1 hq hc hm
  go_enter Try.func39, Try.ntmps39
  go_upto_region 1 with fail
  generalize w.alloc (.cells (wcs (fun _ => 0) false) 51) = w0 at *
  go_wp2_with fail
  refine (number_any g N c q 2 A p _ X.out.rd X.out.bs HP.out (by decide) (by decide) (by have := HQ.out; omega) HC.out HM.out).mono ?_
  rintro e w1 ⟨rfl, r1, g1⟩
  have Y : Hid (Rs w g A N c p w.heap.size 51 (wcs (fun _ => 0) false) w1 (q + 2)) := X.out.step r1 g1
  clear r1 g1 X
  have X := Y
  clear Y
  go_wp2_with fail
  refine (number_any g N c (q + 2) 1 A p _ X.out.rd X.out.bs HP.out (by decide) (by decide) (by have := HQ.out; omega) HC.out HM.out).mono ?_
  rintro e w2 ⟨rfl, r1, g1⟩
  have Y : Hid (Rs w g A N c p w.heap.size 51 (wcs (fun _ => 0) false) w2 (q + 3)) := X.out.step r1 g1
  clear r1 g1 X
  have X := Y
  clear Y
  go_wp2_with fail
  refine (number_any g N c (q + 3) 1 A p _ X.out.rd X.out.bs HP.out (by decide) (by decide) (by have := HQ.out; omega) HC.out HM.out).mono ?_
  rintro e w3 ⟨rfl, r1, g1⟩
  have Y : Hid (Rs w g A N c p w.heap.size 51 (wcs (fun _ => 0) false) w3 (q + 4)) := X.out.step r1 g1
  clear r1 g1 X
  have X := Y
  clear Y
  go_wp2_with fail
  refine (number_any g N c (q + 4) 1 A p _ X.out.rd X.out.bs HP.out (by decide) (by decide) (by have := HQ.out; omega) HC.out HM.out).mono ?_
  rintro e w4 ⟨rfl, r1, g1⟩
  have Y : Hid (Rs w g A N c p w.heap.size 51 (wcs (fun _ => 0) false) w4 (q + 5)) := X.out.step r1 g1
  clear r1 g1 X
  have X := Y
  clear Y
  go_wp2_with fail
  refine (flag_bad g N c (q + 5) A p _ X.out.rd X.out.bs HP.out H1.out (by have := HQ.out; omega) HC.out HM.out).mono ?_
  rintro e w20 ⟨rfl, g1⟩
  have Y := Lib.hid (grown_trans X.out.grown g1)
  clear g1 X
  go_wp2
  exact ⟨rfl, rfl, Y.out⟩

set_option maxRecDepth 100000 in
set_option maxHeartbeats 4000000 in
theorem weapon_bad (g N c q : Nat) (A : Option Addr) (p : Nat → Nat) (w : World) (hR : Rd w g A N c q) (hB : Bs w A N p) (hp : ∀ i, p i < 256) (h1 : num p (q + 5) 1 ≤ 1 ∧ ofE (num p (q + 6) 8) ≠ 0) (hq : q + 14 ≤ N) (hc : N ≤ c) (hm : c ≤ maxLen) :
    Calls Try.prog 39 #[.pointer (some ⟨g, 0, none⟩)] w fun e w' => e = .panicked (Flt (ofE (num p (q + 6) 8)) ((q + 6 : Nat) : Int)) ∧ w.grownBy w' (some g) := by
  have HP := Lib.hid hp
  have H1 := Lib.hid h1
  have HQ := Lib.hid hq
  have HC := Lib.hid hc
  have HM := Lib.hid hm
  have X := Lib.hid (Rs.new hR hB 51 (wcs (fun _ => 0) false))
  clear hR hB hp h1 hq hc hm
  go_enter Try.func39, Try.ntmps39
  go_upto_region 1 with fail
  generalize w.alloc (.cells (wcs (fun _ => 0) false) 51) = w0 at *
  go_wp2_with fail
  refine (number_any g N c q 2 A p _ X.out.rd X.out.bs HP.out (by decide) (by decide) (by have := HQ.out; omega) HC.out HM.out).mono ?_
  rintro e w1 ⟨rfl, r1, g1⟩
  have Y : Hid (Rs w g A N c p w.heap.size 51 (wcs (fun _ => 0) false) w1 (q + 2)) := X.out.step r1 g1
  clear r1 g1 X
  have X := Y
  clear Y
  go_wp2_with fail
  refine (number_any g N c (q + 2) 1 A p _ X.out.rd X.out.bs HP.out (by decide) (by decide) (by have := HQ.out; omega) HC.out HM.out).mono ?_
  rintro e w2 ⟨rfl, r1, g1⟩
  have Y : Hid (Rs w g A N c p w.heap.size 51 (wcs (fun _ => 0) false) w2 (q + 3)) := X.out.step r1 g1
  clear r1 g1 X
  have X := Y
  clear Y
  go_wp2_with fail
  refine (number_any g N c (q + 3) 1 A p _ X.out.rd X.out.bs HP.out (by decide) (by decide) (by have := HQ.out; omega) HC.out HM.out).mono ?_
  rintro e w3 ⟨rfl, r1, g1⟩
  have Y : Hid (Rs w g A N c p w.heap.size 51 (wcs (fun _ => 0) false) w3 (q + 4)) := X.out.step r1 g1
  clear r1 g1 X
  have X := Y
  clear Y
  go_wp2_with fail
  refine (number_any g N c (q + 4) 1 A p _ X.out.rd X.out.bs HP.out (by decide) (by decide) (by have := HQ.out; omega) HC.out HM.out).mono ?_
  rintro e w4 ⟨rfl, r1, g1⟩
  have Y : Hid (Rs w g A N c p w.heap.size 51 (wcs (fun _ => 0) false) w4 (q + 5)) := X.out.step r1 g1
  clear r1 g1 X
  have X := Y
  clear Y
  go_wp2_with fail
  refine (flag_ok g N c (q + 5) A p _ X.out.rd X.out.bs HP.out H1.out.1 (by have := HQ.out; omega) HC.out HM.out).mono ?_
  rintro e w5 ⟨rfl, r1, g1⟩
  have Y : Hid (Rs w g A N c p w.heap.size 51 (wcs (fun _ => 0) false) w5 (q + 6)) := X.out.step r1 g1
  clear r1 g1 X
  have X := Y
  clear Y
  go_wp2_with fail
  refine (speed_bad g N c (q + 6) A p _ X.out.rd X.out.bs HP.out H1.out.2 (by have := HQ.out; omega) HC.out HM.out).mono ?_
  rintro e w20 ⟨rfl, g1⟩
  have Y := Lib.hid (grown_trans X.out.grown g1)
  clear g1 X
  go_wp2
  exact ⟨rfl, rfl, Y.out⟩
end Go.Proofs.Ytpgifcgidelmaaa
