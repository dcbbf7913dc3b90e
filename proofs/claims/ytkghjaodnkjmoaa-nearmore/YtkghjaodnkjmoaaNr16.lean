/- Contracts: Pairs. -/
import Derived.Test.YtkghjaodnkjmoaaNr15
namespace Go.Proofs.Ytkghjaodnkjmoaa
open Go.RowKit Go.Sort Go.Shelf
set_option linter.unusedVariables false

def prs (l : List (Int × Int)) : List Value := l.flatMap fun p => [.int .i64 p.1, .int .i64 p.2]
theorem prs_append (l m : List (Int × Int)) : prs (l ++ m) = prs l ++ prs m := by simp [prs]
theorem prs_length (l : List (Int × Int)) : (prs l).length = l.length * 2 := by
  induction l with
  | nil => rfl
  | cons a l ih =>
    have : prs (a :: l) = [.int .i64 a.1, .int .i64 a.2] ++ prs l := rfl
    rw [this, List.length_append, ih]
    simp only [List.length_cons, List.length_nil]
    omega
theorem prs_at : ∀ (l : List (Int × Int)) (i : Nat) (e : Int × Int), l[i]? = some e → ∀ r, r < 2 → (prs l)[i * 2 + r]? = ([.int .i64 e.1, .int .i64 e.2] : List Value)[r]?
  | [], i, e, h, _, _ => by simp at h
  | a :: l, i, e, h, r, hr => by
    have h0 : prs (a :: l) = [.int .i64 a.1, .int .i64 a.2] ++ prs l := rfl
    rw [h0]
    cases i with
    | zero =>
      simp at h
      subst h
      rw [List.getElem?_append_left (by simp; omega), Nat.zero_mul, Nat.zero_add]
    | succ i =>
      simp at h
      rw [List.getElem?_append_right (by simp; omega)]
      have := prs_at l i e h r hr
      rw [← this]
      congr 1
      simp
      omega
/-- v is a row of the call's own that holds these pairs. -/
def Rp (w : World) (base : Nat) (v : Value) (l : List (Int × Int)) : Prop := w.ownsRow base 47 2 v l.length (prs l)
theorem Rp.nil (w : World) (base : Nat) : Rp w base (.slice none 0 0) [] := World.ownsRow_nil _ _ _ _
theorem Rp.keep {w w' : World} {base : Nat} {v : Value} {l : List (Int × Int)} (h : Rp w base v l) (hb : Below w.heap.size w w') : Rp w' base v l :=
  World.ownsRow.kept h (grownBy_below hb none) (by cases v.ownBlock <;> simp)
theorem Rp.lt {w : World} {base : Nat} {v : Value} {l : List (Int × Int)} (h : Rp w base v l) : ∀ k, v.ownBlock = some k → base ≤ k ∧ k < w.heap.size := World.ownsRow.lt h
/-- Pairs that lie at A. -/
def Prs (w : World) (A : Option Addr) (l : List (Int × Int)) : Prop :=
  0 < l.length → ∃ g o, A = some ⟨g, o, none⟩ ∧ g < w.heap.size ∧ ∀ i e, l[i]? = some e → w.cell? ⟨g, o + i * 2, none⟩ = some (.int .i64 e.1) ∧ w.cell? ⟨g, o + i * 2 + 1, none⟩ = some (.int .i64 e.2)
theorem Prs.keep {w w' : World} {A : Option Addr} {l : List (Int × Int)} (h : Prs w A l) (hb : Below w.heap.size w w') : Prs w' A l := by
  intro hn
  obtain ⟨g, o, e, hg, hc⟩ := h hn
  exact ⟨g, o, e, Nat.lt_of_lt_of_le hg hb.size, fun i e hi => ⟨kc hb (hc i e hi).1, kc hb (hc i e hi).2⟩⟩
theorem Rp.prs {w : World} {base : Nat} {v : Value} {l : List (Int × Int)} (h : Rp w base v l) : ∃ A k, v = .slice A l.length k ∧ l.length ≤ k ∧ k ≤ maxLen ∧ Prs w A l := by
  rcases h.2 with ⟨rfl, hn⟩ | ⟨g, cap, cur, rfl, hg, hh, hnc, hcm, _, _⟩
  · rw [hn]
    exact ⟨none, 0, rfl, Nat.le_refl _, by simp [maxLen], fun h0 => by omega⟩
  · refine ⟨_, cap, rfl, hnc, hcm, fun h0 => ⟨g, 0, rfl, (Array.getElem?_eq_some_iff.1 hh).1, fun i e hi => ?_⟩⟩
    have hl := (List.getElem?_eq_some_iff.1 hi).1
    have c0 := World.ownsRow.cellAt h (i * 2 + 0) (by omega)
    have c1 := World.ownsRow.cellAt h (i * 2 + 1) (by omega)
    rw [prs_at l i e hi 0 (by omega)] at c0
    rw [prs_at l i e hi 1 (by omega)] at c1
    refine ⟨?_, ?_⟩
    · rw [Nat.zero_add]; exact c0
    · rw [Nat.zero_add]; exact c1
theorem Try.infoP : (Try.prog.info? 47).map (fun i => (i.zero, i.size, i.bytes)) = some (some (.agg #[.int .i64 0, .int .i64 0]), 2, 16) := by kernel_rfl
/-- 'append(s, p)': the pair lies in a new block of its own. -/
theorem append_pair {ops : Array Oper} {rest : List Oper} {o : Oper} {a : Act} {Q : Exit → Act → World → Prop} (hgd : o.guard = none) (s x : Operand)
    (ho : o.op = .call { callee := .builtin .append, args := #[s, x], argTypes := #[41, 41] })
    (base : Nat) (l : List (Int × Int)) (z z' : Int) (v : Value) (w : World) (hs : a.eval s = v) (hown : Rp w base v l)
    (hx : a.eval x = .slice (some ⟨w.heap.size, 0, none⟩) 1 1) (hmn : l.length ≤ 1000000) (hbase : base ≤ w.heap.size)
    (h : ∀ v' w', Rp w' base v' (l ++ [(z, z')]) → Ext w v w' v' → wpList Try.prog ops Q rest (a.put o.dst v') w') :
    wpList Try.prog ops Q (o :: rest) a (w.alloc (.cells #[.int .i64 z, .int .i64 z'] 47)) := by
  refine wpList_plain hgd fun K hK => ?_
  have hown0 : (w.alloc (.cells #[.int .i64 z, .int .i64 z'] 47)).ownsRow base 47 2 v l.length (prs l) := hown.keep (below_box _)
  obtain ⟨i0, hi, hz0, hz1, hz2⟩ := info_parts Try.infoP
  obtain ⟨v', w', hr, hown', hgr, hwh⟩ := append_where (P := Try.prog) (w.alloc (.cells #[.int .i64 z, .int .i64 z'] 47)) base 41 o.type 47 i0 (.agg #[.int .i64 0, .int .i64 0]) 2 16 Try.underlying41 hi hz0 hz1 hz2 rfl (by decide) v l.length (prs l) hown0 ⟨w.heap.size, 0, none⟩ 1 1 (prs [(z, z')]) (by simp [prs])
    (by
      intro j u hj
      match j, hj with
      | 0, hj => simp [prs] at hj; subst hj; simp [Addr.add]
      | 1, hj => simp [prs] at hj; subst hj; simp [Addr.add])
    (by intro u hu; simp [prs] at hu; rcases hu with rfl | rfl <;> rfl) (by decide) (by unfold maxLen; omega) (by omega) (by simp; omega)
  unfold Oper.wp execOp
  simp only [ho, resolve, invoke, builtin, Sem.run_bind, Sem.run_pure, Result.andThen_ok, List.map_toArray, List.map_cons, List.map_nil, hs, hx, hr]
  refine hK _ _ (h v' w' ?_ ?_)
  · unfold Rp
    rw [prs_append, List.length_append]
    exact hown'
  · refine (Ext.refl w v).trans (Ext.trans ⟨grownBy_below (below_box _) _, .inl rfl⟩ ⟨hgr, ?_⟩)
    rcases hwh with e | e
    · exact .inl e
    · exact .inr fun k hk => by rw [e] at hk; injection hk; omega

theorem rows_differ {X : World} {b1 b2 s1 s2 n1 n2 : Nat} {e1 e2 : TypeId} {v1 v2 : Value} {x1 x2 : List Value} (h1 : X.ownsRow b1 e1 s1 v1 n1 x1) (h2 : X.ownsRow b2 e2 s2 v2 n2 x2) (hne : e1 ≠ e2) : v1.ownBlock = none ∨ v1.ownBlock ≠ v2.ownBlock := by
  rcases h1.2 with ⟨rfl, _⟩ | ⟨g, cap, cur, rfl, _, hg, _⟩
  · exact .inl rfl
  · refine .inr fun e => ?_
    rcases h2.2 with ⟨rfl, _⟩ | ⟨g', cap', cur', rfl, _, hg', _⟩
    · simp [Value.ownBlock] at e
    · simp [Value.ownBlock] at e
      subst e
      rw [hg] at hg'
      injection hg' with hg'
      injection hg' with _ h2
      exact hne h2

/-- A row of pairs on its way: beside it an entry's box and the numbers it is joined with. -/
structure Pw (W w : World) (g e : Nat) (xe ye : Int) (u v : Value) (ls : List Int) (l : List (Int × Int)) : Prop where
  below : Below W.heap.size W w
  box : w.heap[g]? = some (.cells #[.int .i64 (e : Int), .int .i64 xe, .int .i64 ye] 58 (0, 0))
  num : Rn w W.heap.size u ls
  row : Rp w W.heap.size v l
theorem Pw.next {W w w' : World} {g e : Nat} {xe ye : Int} {u v v' : Value} {ls : List Int} {l l' : List (Int × Int)} (h : Pw W w g e xe ye u v ls l) (hr : Rp w' W.heap.size v' l') (hE : Ext w v w' v') : Pw W w' g e xe ye u v' ls l' :=
  ⟨h.below.grown hE.grown h.below.size (fun r er => (h.row.lt r er).1), (hE.grown.block g (Array.getElem?_eq_some_iff.1 h.box).1 (blk_not_row h.box (by decide) h.row)).trans h.box, World.ownsRow.kept h.num hE.grown (rows_differ h.num h.row (by decide)), hr⟩
theorem Pw.c {W w : World} {g e : Nat} {xe ye : Int} {u v : Value} {ls : List Int} {l : List (Int × Int)} (h : Pw W w g e xe ye u v ls l) : w.cell? ⟨g, 0, none⟩ = some (.int .i64 (e : Int)) := by
  rw [cell_of_row w g 0 _ _ (0, 0) h.box]; rfl
section
variable (X Y : Nat → Int)
/-- Of the first k their pairs, in order. -/
def prow (n : Nat) (r : Int) (i : Nat) : List (Int × Int) := (wsel X Y n (X i) (Y i) r ((i : Int) + 1)).map fun j => ((i : Int), j)
def pall (n : Nat) (r : Int) (k : Nat) : List (Int × Int) := (List.range k).flatMap (prow X Y n r)
theorem pall_succ (n : Nat) (r : Int) (k : Nat) : pall X Y n r (k + 1) = pall X Y n r k ++ (wsel X Y n (X k) (Y k) r ((k : Int) + 1)).map fun j => ((k : Int), j) := by
  unfold pall
  rw [List.range_succ, List.flatMap_append, List.flatMap_singleton]
  rfl
theorem wsel_len (n : Nat) (x y r least : Int) : (wsel X Y n x y r least).length ≤ n := Nat.le_trans (sel_len _ _) (win_len X Y n x y r)
theorem pall_len (n : Nat) (r : Int) : ∀ k, (pall X Y n r k).length ≤ k * n
  | 0 => by simp [pall]
  | k + 1 => by
    have h1 := pall_len n r k
    have h2 := wsel_len X Y n (X k) (Y k) r ((k : Int) + 1)
    rw [pall_succ, List.length_append, List.length_map, Nat.add_mul]
    omega
/-- What Pairs hands back. -/
def RetPa (n : Nat) (r : Int) (w : World) (e : Ending) (w' : World) : Prop :=
  Below w.heap.size w w' ∧ ((sp r = false ∧ e = .returned (.tuple #[.slice none 0 0, .int .i64 1])) ∨
    (sp r = true ∧ ∃ A k, e = .returned (.tuple #[.slice A (pall X Y n r n).length k, .int .i64 0]) ∧ (pall X Y n r n).length ≤ k ∧ k ≤ maxLen ∧ Prs w' A (pall X Y n r n)))
set_option maxRecDepth 100000 in
set_option maxHeartbeats 4000000 in
theorem pairs_any (p n : Nat) (r : Int) (w : World) (hI : Ix X Y w p n) (hO : oks X Y n) (hn : n ≤ 256) :
    Calls Try.prog 16 #[.pointer (some ⟨p, 0, none⟩), .int .i64 r] w (RetPa X Y n r w) := by
  have KX := Lib.hid (Kx.new w 2 #[.int .i64 r])
  have HU := Lib.hid (upto1 r w.heap.size 1 (w.alloc (.cells #[.int .i64 r] 2)) (by simp))
  have HI := Lib.hid hI
  have HO := Lib.hid hO
  clear hI hO
  cases hs : sp r
  · have HS := Lib.hid hs
    clear hs
    go_enter Try.func16, Try.ntmps16
    go_wp2_with fail
    refine HU.out.mono ?_
    rw [HS.out]
    rintro e w1 ⟨rfl, b1⟩
    have K1 := Lib.hid (KX.out.keep b1)
    clear b1 KX HU
    go_wp2
    go_ret2
    exact ⟨K1.out.below, .inl ⟨HS.out, rfl⟩⟩
  · have HS := Lib.hid hs
    clear hs
    go_enter Try.func16, Try.ntmps16
    go_wp2_with fail
    refine HU.out.mono ?_
    rw [HS.out]
    rintro e w1 ⟨rfl, b1⟩
    have K1 := Lib.hid (KX.out.keep b1)
    clear b1 KX HU
    have AL := Lib.hid (all_any X Y p n w1 (HI.out.keep X Y K1.out.below) hn)
    go_wp2_with fail
    refine AL.out.mono ?_
    rintro e W ⟨A, c, rfl, q1, q2, q3, b2⟩
    have HW := Lib.hid (K1.out.keep b2).below
    have HE := Lib.hid q3
    have HIW := Lib.hid ((HI.out.keep X Y K1.out.below).keep X Y b2)
    clear q1 q2 q3 b2 AL K1
    go_wp2
    go_loopw [6, 18] (fun v i wr => ∃ k : Nat, k ≤ n ∧ i = .int .i64 (k : Int) ∧ Hid (Rp wr W.heap.size v (pall X Y n r k)) ∧ Hid (Below W.heap.size W wr)) (fun _ i _ => n - (intOf i).toNat)
    case atStart => exact ⟨0, by omega, rfl, Rp.nil _ _, Below.refl _ _⟩
    case round =>
      obtain ⟨k, hk, rfl, hR, hB⟩ := hrel
      by_cases hkn : k < n
      · have hkI : (k : Int) < (n : Int) := by omega
        obtain ⟨g, o, rfl, hg, d0, d1, d2⟩ := HE.out.at X Y (i := k) (e := k) (by simp [hkn])
        have d0 := kc hB.out d0
        have d1 := kc hB.out d1
        have d2 := kc hB.out d2
        have K3 := Lib.hid (Kx.new wr 58 #[.int .i64 (k : Int), .int .i64 (X k), .int .i64 (Y k)])
        have HIw : Hid (Ix X Y wr p n) := HIW.out.keep X Y hB.out
        have RW := Lib.hid (hR.out.keep K3.out.below)
        have IX := Lib.hid (indexes_any X Y p n (X k) (Y k) r ((k : Int) + 1) _ (HIw.out.keep X Y K3.out.below) HO.out hn (sp_iff.1 (HO.out k hkn).1) (sp_iff.1 (HO.out k hkn).2) ⟨(sp_iff.1 HS.out).1, by have := (sp_iff.1 HS.out).2; omega⟩)
        have HPs : Hid (pall X Y n r (k + 1) = pall X Y n r k ++ (wsel X Y n (X k) (Y k) r ((k : Int) + 1)).map fun j => ((k : Int), j)) := pall_succ X Y n r k
        have HPn : Hid ((pall X Y n r k).length + (wsel X Y n (X k) (Y k) r ((k : Int) + 1)).length ≤ 1000000) := by
          have h1 := pall_len X Y n r k
          have h2 := wsel_len X Y n (X k) (Y k) r ((k : Int) + 1)
          have h3 : k * n ≤ 256 * 256 := Nat.mul_le_mul (by omega) hn
          show _ ≤ _
          omega
        generalize wsel X Y n (X k) (Y k) r ((k : Int) + 1) = ls at *
        generalize pall X Y n r k = pl at *
        generalize X k = xk at *
        generalize Y k = yk at *
        go_wp2_with fail
        refine IX.out.mono ?_
        rintro e w3 ⟨A3, c3, rfl, q1, q2, q3, b3, hN⟩
        have P3 : Hid (Pw W w3 wr.heap.size k xk yk (.slice A3 ls.length c3) u6 ls pl) := ⟨hB.out.trans ((K3.out.keep b3).below.mono hB.out.size), (K3.out.keep b3).blk, hN.lower (by have := hB.out.size; simp; omega), RW.out.keep b3⟩
        clear hR hB d0 d1 d2 IX K3 RW q1 q2 q3 b3 hN HIw
        generalize hL : ls.length = L at *
        generalize wr.heap.size = g at *
        go_wp2
        go_loopw [6, 35] (fun v i wi => ∃ j : Nat, j ≤ L ∧ i = .int .i64 (j : Int) ∧ Hid (Pw W wi g k xk yk (.slice A3 L c3) v ls (pl ++ (ls.take j).map fun z => ((k : Int), z)))) (fun _ i _ => L - (intOf i).toNat)
        case atStart => exact ⟨0, by omega, rfl, by show Pw _ _ _ _ _ _ _ _ _ _; simpa using P3.out⟩
        case round =>
          obtain ⟨j, hj, rfl, hP⟩ := hrel
          by_cases hjL : j < L
          · have hjI : (j : Int) < (L : Int) := by omega
            obtain ⟨A', c', e', -, -, hIs⟩ := hP.out.num.is
            have hg' : ∃ g5 o5, A3 = some ⟨g5, o5, none⟩ ∧ wr.cell? ⟨g5, o5 + j, none⟩ = some (.int .i64 (ls.getD j 0)) := by
              injection e' with e1 e2 e3
              subst e1
              obtain ⟨g5, o5, ea, _, hc⟩ := hIs (by omega)
              exact ⟨g5, o5, ea, hc j (by omega)⟩
            obtain ⟨g5, o5, rfl, hc5⟩ := hg'
            clear hIs e'
            have hb0 := hP.out.c
            have hLm : L ≤ 1000000 := by have := HPn.out; omega
            have HT : Hid (ls.take (j + 1) = ls.take j ++ [ls.getD j 0]) := by
              show _ = _
              rw [List.take_add_one, List.getElem?_eq_getElem (by omega)]
              simp [List.getD, hL, hjL]
            have HLn : Hid ((pl ++ (ls.take j).map fun z => ((k : Int), z)).length ≤ 1000000) := by
              show _ ≤ _
              have := HPn.out
              simp
              omega
            have HSz : Hid (W.heap.size ≤ wr.heap.size) := hP.out.below.size
            generalize ls.getD j 0 = z at *
            go_wp2_with (at_builtin; refine append_pair rfl (.tmp 39) (.tmp 44) rfl W.heap.size _ (k : Int) z _ wr rfl hP.out.row rfl HLn.out HSz.out ?_; intro v2 w5 hr5 hE5; (have HN := Lib.hid (hP.out.next hr5 hE5)); clear hr5 hE5)
            have HN2 : Hid (Pw W w5 g k xk yk (.slice (some ⟨g5, o5, none⟩) L c3) v2 ls (pl ++ (ls.take (j + 1)).map fun z => ((k : Int), z))) := by
              have := HN.out
              rw [List.append_assoc] at this
              rw [HT.out, List.map_append]
              exact this
            go_roundw
            case rel => exact ⟨j + 1, by omega, by go_num, HN2.out⟩
            case measure => simp [intOf]; omega
          · obtain rfl : j = L := by omega
            have hjI : ¬ (j : Int) < (j : Int) := by omega
            have HR9 : Hid (Rp wr W.heap.size u6 (pall X Y n r (k + 1)) ∧ Below W.heap.size W wr) := by
              rw [HPs.out]
              have := hP.out.row
              rw [← hL, List.take_length] at this
              exact ⟨this, hP.out.below⟩
            go_wp2
            go_roundw
            case rel => exact ⟨k + 1, by omega, by go_num, HR9.out.1, HR9.out.2⟩
            case measure => simp [intOf]; omega
      · obtain rfl : k = n := by omega
        have hkI : ¬ (k : Int) < (k : Int) := by omega
        obtain ⟨A', c', rfl, r1, r2, r3⟩ := hR.out.prs
        have HF : Hid ((pall X Y k r k).length ≤ c' ∧ c' ≤ maxLen ∧ Prs wr A' (pall X Y k r k)) := ⟨r1, r2, r3⟩
        have HB : Hid (Below w.heap.size w wr) := HW.out.trans (hB.out.mono HW.out.size)
        clear r1 r2 r3 hR hB
        obtain ⟨pl, hpl⟩ : ∃ pl, pall X Y k r k = pl := ⟨_, rfl⟩
        rw [hpl] at HF ⊢
        have HPl := Lib.hid hpl
        clear hpl
        go_wp2
        go_ret2
        refine ⟨HB.out, .inr ⟨HS.out, ?_⟩⟩
        rw [HPl.out]
        exact ⟨A', c', rfl, HF.out.1, HF.out.2.1, HF.out.2.2⟩
end
end Go.Proofs.Ytkghjaodnkjmoaa
