/- The reference's Encode. -/
import Derived.Test.YtpgifcgidelmaaaKr1
namespace Go.Proofs.Ytpgifcgidelmaaa
open Go.RowKit
set_option linter.unusedVariables false

/-- 'append(s, b...)' where b is a row of a call's own. -/
theorem append_put {ops : Array Oper} {rest : List Oper} {o : Oper} {a : Act} {Q : Exit → Act → World → Prop} (hgd : o.guard = none) (s x : Operand)
    (ho : o.op = .call { callee := .builtin .append, args := #[s, x], argTypes := #[34, 34] })
    (base base2 : Nat) (l m : List Nat) (v vm : Value) (w : World) (hs : a.eval s = v) (hown : Rw w base v l)
    (hx : a.eval x = vm) (hm : Rw w base2 vm m) (hm0 : 0 < m.length) (hmn : l.length + m.length ≤ 1000000) (hbase : base ≤ w.heap.size)
    (h : ∀ v' w', Rw w' base v' (l ++ m) → Ext w v w' v' → wpList Try.prog ops Q rest (a.put o.dst v') w') :
    wpList Try.prog ops Q (o :: rest) a w := by
  obtain ⟨g, k, rfl, h1, h2, h3, h4, h5, h6⟩ := hm.some hm0
  refine append_row hgd s x ho base l m k v ⟨g, 0, none⟩ w hs hown hx ?_ hm0 hmn hbase h
  intro j u hj
  have hj2 : j < m.length := by
    rcases Nat.lt_or_ge j m.length with q | q
    · exact q
    · rw [List.getElem?_eq_none (by rw [bl_length]; exact q)] at hj; cases hj
  have e : (⟨g, 0, none⟩ : Addr).add j = ⟨g, j, none⟩ := by unfold Addr.add; split <;> simp_all
  rw [e, h5 j hj2, ← hj]
  simp [bl, List.getD, hj2]
theorem blk_cell {W : World} {g : Nat} {t : TypeId} {cs : Array Value} (h : W.heap[g]? = some (.cells cs t (0, 0))) (i : Nat) {x : Value} (e : cs[i]? = some x) : W.cell? ⟨g, i, none⟩ = some x := by
  rw [cell_of_row W g i cs t (0, 0) h, e]
theorem blk_keep {W W' : World} {g : Nat} {t : TypeId} {cs : Array Value} (h : W.heap[g]? = some (.cells cs t (0, 0))) (hb : Below W.heap.size W W') : W'.heap[g]? = some (.cells cs t (0, 0)) :=
  (hb.block g (Array.getElem?_eq_some_iff.1 h).1).trans h
theorem ints_cell {W : World} {g k n : Nat} {zs : List Int} (h : W.heap[g]? = some (.cells (zs.map fun v => Value.int .i64 v).toArray 3 (0, 0))) (hn : zs.length = n) (hk : k < n) : W.cell? ⟨g, k, none⟩ = some (.int .i64 (lst zs k)) := by
  have hkz : k < zs.length := by omega
  rw [cell_of_row W g k _ _ (0, 0) h]
  simp [lst, List.getD, hkz]
theorem flds1_one (a : Int) : flds 1 (lst [a]) 1 = [a.toNat % 256] := by simp [flds, le, lst]
theorem flds1_two (a b : Int) : flds 1 (lst [a, b]) 2 = [a.toNat % 256, b.toNat % 256] := by simp [flds, le, lst]
theorem flds1_four (a b c d : Int) : flds 1 (lst [a, b, c, d]) 4 = [a.toNat % 256, b.toNat % 256, c.toNat % 256, d.toNat % 256] := by simp [flds, le, lst]
theorem lst_le (l : List Int) {n : Nat} (hn : l.length = n) (h : ∀ v ∈ l, 0 ≤ v ∧ v ≤ 255) : ∀ i, i < n → 0 ≤ lst l i ∧ lst l i ≤ 255 := by
  intro i hi
  have : i < l.length := by omega
  simp only [lst, List.getD, List.getElem?_eq_getElem this, Option.getD_some]
  exact h _ (List.getElem_mem this)
theorem byteOf {a : Int} (h0 : 0 ≤ a) (h1 : a ≤ 255) : ∃ y : Nat, IntKind.u8.wrap a = (y : Int) ∧ a.toNat % 256 = y := by
  refine ⟨a.toNat % 256, ?_, rfl⟩
  simp [IntKind.wrap, IntKind.bits, IntKind.signed]
  omega

set_option maxRecDepth 100000 in
set_option maxHeartbeats 8000000 in
theorem refEncode_any (n m c c2 : Nat) (A A2 : Option Addr) (K U : Nat → Nat → Int) (F : Nat → Bool) (w : World) (h : Chk n m K U 0 0) (hn : n ≤ maxLen) (hm : m ≤ maxLen) (hK : Kn w A n K) (hW : Wn w A2 m U F) :
    Calls Try.prog 14 #[.agg #[.slice A n c, .slice A2 m c2]] w (RetE (bby K U F n m) w) := by
  obtain ⟨n1, n2, m2, hk, hw⟩ : 1 ≤ n ∧ n ≤ 16 ∧ m ≤ 16 ∧ (∀ j, j < n → okK (K j) m = true) ∧ ∀ j, j < m → okW (U j) = true := by
    cases h with
    | fine a b c d e => exact ⟨a, b, c, d, e⟩
  have OK := Lib.hid hk
  have OW := Lib.hid hw
  have HK := Lib.hid hK
  have HW := Lib.hid hW
  have X0 := (Wk.new (base := w.heap.size) 26 #[.slice A n c, .slice A2 m c2] (Rw.nil w w.heap.size) (Nat.le_refl _))
  have hte : 26 ≠ 5 := by decide
  have htk : 46 ≠ 5 := by decide
  have htw : 51 ≠ 5 := by decide
  have hti : 3 ≠ 5 := by decide
  have X : Hid (Wk w (.slice none 0 0) w.heap.size w.heap.size 26 #[.slice A n c, .slice A2 m c2] ((w.alloc (.cells #[.slice A n c, .slice A2 m c2] 26)).alloc (.cells #[.int .u8 (n : Int), .int .u8 (m : Int)] 5)) (.slice (some ⟨w.heap.size + 1, 0, none⟩) 2 2) [n, m]) := by
    have hsz : (w.alloc (.cells #[.slice A n c, .slice A2 m c2] 26)).heap.size = w.heap.size + 1 := by simp
    refine ⟨?_, ?_, (X0.alloc _).blk, (X0.alloc _).hB⟩
    · have := World.ownsRow_lit (e := 5) (size := 1) (base := w.heap.size) (w.alloc (.cells #[.slice A n c, .slice A2 m c2] 26)) #[.int .u8 (n : Int), .int .u8 (m : Int)] 2 (by rw [hsz]; omega) (by simp [maxLen]) (by simp)
      rw [hsz] at this
      exact this
    · refine ⟨(X0.ext.step (below_box _)).grown, .inr fun k hk => ?_⟩
      simp only [Value.ownBlock, Option.some.injEq] at hk
      omega
  have HH : Hid (flds 1 (lst [(n : Int), (m : Int)]) 2 = [n, m]) := by
    show _ = _
    rw [flds1_two]
    simp only [Int.toNat_natCast]
    rw [Nat.mod_eq_of_lt (by omega), Nat.mod_eq_of_lt (by omega)]
  have HY : Hid (bby K U F n m = [n, m] ++ (kbys K n ++ wbys U F m)) := by show _ = _; unfold bby; rw [HH.out]
  clear h hn hm hK hW hk hw HH X0
  have u1 : IntKind.u8.wrap (n : Int) = (n : Int) := by simp [IntKind.wrap, IntKind.bits, IntKind.signed]; omega
  have u2 : IntKind.u8.wrap (m : Int) = (m : Int) := by simp [IntKind.wrap, IntKind.bits, IntKind.signed]; omega
  go_enter Try.func14, Try.ntmps14
  go_wp2
  clear u1 u2
  go_loopw [3, 4] (fun t3 i wr => ∃ k : Nat, k ≤ n ∧ i = .int .i64 (k : Int) ∧ Hid (Wk w (.slice none 0 0) w.heap.size w.heap.size 26 #[.slice A n c, .slice A2 m c2] wr t3 ([n, m] ++ kbys K k))) (fun _ i _ => n - (intOf i).toNat)
  case atStart => exact ⟨0, by omega, rfl, by show Wk _ _ _ _ _ _ _ _ _; rw [kbys, List.append_nil]; exact X.out⟩
  case round =>
    obtain ⟨k, hk, rfl, hX⟩ := hrel
    clear X
    have b0 := hX.out.cell 0 (x := .slice A n c) rfl
    by_cases hlt : k < n
    · have hlt' : (k : Int) < (n : Int) := by omega
      obtain ⟨g, o, p, rfl, hp, hc⟩ := (HK.out.keep hX.out.below).one hlt
      have HL := Lib.hid hc
      have SB := okK_bd (OK.out k hlt) (by omega)
      have SY := okK_byte (OK.out k hlt) (by omega)
      have HS : Hid ([n, m] ++ kbys K (k + 1) = (((([n, m] ++ kbys K k) ++ flds 1 (lst [K k 0]) 1) ++ flds 2 (lst [K k 1, K k 3, K k 8, K k 9, K k 10, K k 14, K k 15, K k 19]) 8) ++ flds 1 (lst [K k 4, K k 5, K k 6, K k 7, K k 11, K k 12, K k 13, K k 16, K k 17, K k 18]) 10) ++ le 8 (spd (K k 2))) := by show _ = _; rw [kbys]; unfold kby; simp only [List.append_assoc]
      have HN : Hid (([n, m] ++ kbys K k).length ≤ 100000) := by show _ ≤ _; rw [List.length_append, kbys_length]; simp; omega
      obtain ⟨l0, el⟩ : ∃ l0, [n, m] ++ kbys K k = l0 := ⟨_, rfl⟩
      rw [el] at hX HS HN
      obtain ⟨f, ef⟩ : ∃ f, K k = f := ⟨_, rfl⟩
      rw [ef] at HL SB SY HS
      have HJ := Lib.hid SB.2
      have HF := Lib.hid SB.1
      have HJ1 := Lib.hid SY
      obtain ⟨y0, u0, e0⟩ := byteOf (SY 0 (by decide) (by decide) (by decide) (by decide) (by decide) (by decide) (by decide) (by decide) (by decide) (by decide)).1 (SY 0 (by decide) (by decide) (by decide) (by decide) (by decide) (by decide) (by decide) (by decide) (by decide) (by decide)).2
      rw [flds1_one, e0] at HS
      clear hc el ef SB SY e0
      have X0 := Lib.hid (hX.out.alloc (.cells (kcs f) 46))
      have B0 := Lib.hid (alloc_blk wr (kcs f) 46)
      go_upto_region 6 with (first | (refine wpList_load_at HL.out rfl rfl rfl ?_) | (refine wpList_store_new Try.sizeKind rfl rfl rfl rfl rfl rfl rfl (kcs_one _) ?_) | (refine wpList_load_at (loadVar_kind (alloc_blk _ _ _)) rfl rfl rfl ?_))
      clear b0 HL hp
      generalize wr.alloc (.cells (kcs f) 46) = w1 at *
      obtain ⟨kb, ekb⟩ : ∃ kb, wr.heap.size = kb := ⟨_, rfl⟩
      rw [ekb] at B0 ⊢
      clear ekb hX
      have c0 := blk_cell B0.out 0 (x := .int .i64 (f 0)) rfl
      go_upto_region 7 with (at_builtin; refine append_new rfl (.tmp 34) (.tmp 38) rfl w.heap.size l0 [y0] 1 _ _ w1 rfl X0.out.row rfl rfl rfl (by simp) (by have := HN.out; simp; omega) X0.out.hB ?_; intro v1 w2 hr he)
      have X1 := Lib.hid (X0.out.step hte hr he)
      have B1 := Lib.hid (blk_ext B0.out htk X0.out.row he)
      clear hr he X0 B0 c0 u0
      have HN1 : Hid ((l0 ++ [y0]).length ≤ 100001) := by have := HN.out; show _ ≤ _; simp; omega
      obtain ⟨l1, el⟩ : ∃ l1, l0 ++ [y0] = l1 := ⟨_, rfl⟩
      rw [el] at X1 HS HN1
      clear el HN
      have c1 := blk_cell B1.out 1 (x := .int .i64 (f 1)) rfl
      have c3 := blk_cell B1.out 3 (x := .int .i64 (f 3)) rfl
      have c8 := blk_cell B1.out 8 (x := .int .i64 (f 8)) rfl
      have c9 := blk_cell B1.out 9 (x := .int .i64 (f 9)) rfl
      have c10 := blk_cell B1.out 10 (x := .int .i64 (f 10)) rfl
      have c14 := blk_cell B1.out 14 (x := .int .i64 (f 14)) rfl
      have c15 := blk_cell B1.out 15 (x := .int .i64 (f 15)) rfl
      have c19 := blk_cell B1.out 19 (x := .int .i64 (f 19)) rfl
      go_wp2
      clear c1 c3 c8 c9 c10 c14 c15 c19
      go_loopw [3, 58] (fun t3 i wx => ∃ q : Nat, q ≤ 8 ∧ i = .int .i64 (q : Int) ∧ Hid (Wk w (.slice none 0 0) w.heap.size w.heap.size 26 #[.slice (some ⟨g, o, none⟩) n c, .slice A2 m c2] wx t3 (l1 ++ flds 2 (lst [f 1, f 3, f 8, f 9, f 10, f 14, f 15, f 19]) q)) ∧ Hid (wx.heap[kb]? = some (.cells (kcs f) 46 (0, 0))) ∧ Hid (wx.heap[w2.heap.size]? = some (.cells ([f 1, f 3, f 8, f 9, f 10, f 14, f 15, f 19].map fun v => Value.int .i64 v).toArray 3 (0, 0)))) (fun _ i _ => 8 - (intOf i).toNat)
      case atStart => exact ⟨0, by omega, rfl, by show Wk _ _ _ _ _ _ _ _ _; rw [flds, List.append_nil]; exact X1.out.alloc _, blk_keep B1.out (below_box _), alloc_blk _ _ _⟩
      case round =>
        obtain ⟨q, hq, rfl, hX, hB, hG⟩ := hrel
        clear X1 B1
        rename World => wx
        by_cases hq8 : q < 8
        · have hq8' : (q : Int) < 8 := by omega
          have cq := ints_cell (n := 8) hG.out rfl hq8
          obtain ⟨a0, a1⟩ := lst_bd (n := 8) [f 1, f 3, f 8, f 9, f 10, f 14, f 15, f 19] rfl (fun v hv => by
            simp only [List.mem_cons, List.not_mem_nil, or_false] at hv
            rcases hv with rfl | rfl | rfl | rfl | rfl | rfl | rfl | rfl
            · have := HJ.out 1 (by decide) (by decide); omega
            · have := HJ.out 3 (by decide) (by decide); omega
            · have := HJ.out 8 (by decide) (by decide); omega
            · have := HJ.out 9 (by decide) (by decide); omega
            · have := HJ.out 10 (by decide) (by decide); omega
            · have := HJ.out 14 (by decide) (by decide); omega
            · have := HJ.out 15 (by decide) (by decide); omega
            · have := HJ.out 19 (by decide) (by decide); omega) q hq8
          obtain ⟨x, ex⟩ : ∃ x : Nat, lst [f 1, f 3, f 8, f 9, f 10, f 14, f 15, f 19] q = (x : Int) := ⟨(lst [f 1, f 3, f 8, f 9, f 10, f 14, f 15, f 19] q).toNat, by omega⟩
          have HQ : Hid (l1 ++ flds 2 (lst [f 1, f 3, f 8, f 9, f 10, f 14, f 15, f 19]) (q + 1) = (l1 ++ flds 2 (lst [f 1, f 3, f 8, f 9, f 10, f 14, f 15, f 19]) q) ++ le 2 x) := by show _ = _; rw [flds, List.append_assoc, ex]; simp
          have HM : Hid ((l1 ++ flds 2 (lst [f 1, f 3, f 8, f 9, f 10, f 14, f 15, f 19]) q).length ≤ 200000) := by have := HN1.out; show _ ≤ _; rw [List.length_append, flds_length]; omega
          rw [ex] at cq a0 a1
          have HX9 : Hid (x < 18446744073709551616) := by show _ < _; omega
          have u1 : IntKind.u64.wrap (x : Int) = (x : Int) := by simp [IntKind.wrap, IntKind.bits, IntKind.signed]; omega
          obtain ⟨l2, el⟩ : ∃ l2, l1 ++ flds 2 (lst [f 1, f 3, f 8, f 9, f 10, f 14, f 15, f 19]) q = l2 := ⟨_, rfl⟩
          rw [el] at HM HQ hX
          clear ex el a0 a1
          go_wp2_with fail
          refine (put_any x 2 _ (by decide) HX9.out).mono ?_
          rintro e w3 ⟨vm, rfl, hm, b3⟩
          have HP := Lib.hid hm
          have X3 := Lib.hid (hX.out.keep b3)
          have B3 := Lib.hid (blk_keep hB.out b3)
          have G3 := Lib.hid (blk_keep hG.out b3)
          clear hm b3 hX hB hG cq
          go_wp2_with (at_builtin; refine append_put rfl (.tmp 62) (.tmp 65) rfl w.heap.size _ l2 (le 2 x) _ _ w3 rfl X3.out.row rfl HP.out (by rw [le_length]; decide) (by have := HM.out; rw [le_length]; omega) X3.out.hB ?_; intro v4 w4 hr he)
          have X4 := Lib.hid (X3.out.step hte hr he)
          have B4 := Lib.hid (blk_ext B3.out htk X3.out.row he)
          have G4 := Lib.hid (blk_ext G3.out hti X3.out.row he)
          clear hr he X3 B3 G3
          go_roundw
          case rel => exact ⟨q + 1, by omega, by go_num, by show Wk _ _ _ _ _ _ _ _ _; rw [HQ.out]; exact X4.out, B4.out, G4.out⟩
          case measure => simp [intOf]; omega
        · have e : q = 8 := by omega
          have hge : ¬ (q : Int) < 8 := by omega
          rw [e] at hX
          clear hG e
          have HN2 : Hid ((l1 ++ flds 2 (lst [f 1, f 3, f 8, f 9, f 10, f 14, f 15, f 19]) 8).length ≤ 100020) := by have := HN1.out; show _ ≤ _; rw [List.length_append, flds_length]; omega
          obtain ⟨l2, el⟩ : ∃ l2, l1 ++ flds 2 (lst [f 1, f 3, f 8, f 9, f 10, f 14, f 15, f 19]) 8 = l2 := ⟨_, rfl⟩
          rw [el] at hX HS HN2
          clear el HN1
          have c4 := blk_cell hB.out 4 (x := .int .i64 (f 4)) rfl
          have c5 := blk_cell hB.out 5 (x := .int .i64 (f 5)) rfl
          have c6 := blk_cell hB.out 6 (x := .int .i64 (f 6)) rfl
          have c7 := blk_cell hB.out 7 (x := .int .i64 (f 7)) rfl
          have c11 := blk_cell hB.out 11 (x := .int .i64 (f 11)) rfl
          have c12 := blk_cell hB.out 12 (x := .int .i64 (f 12)) rfl
          have c13 := blk_cell hB.out 13 (x := .int .i64 (f 13)) rfl
          have c16 := blk_cell hB.out 16 (x := .int .i64 (f 16)) rfl
          have c17 := blk_cell hB.out 17 (x := .int .i64 (f 17)) rfl
          have c18 := blk_cell hB.out 18 (x := .int .i64 (f 18)) rfl
          go_wp2
          clear c4 c5 c6 c7 c11 c12 c13 c16 c17 c18
          go_loopw [3, 90] (fun t3 i wz => ∃ q : Nat, q ≤ 10 ∧ i = .int .i64 (q : Int) ∧ Hid (Wk w (.slice none 0 0) w.heap.size w.heap.size 26 #[.slice (some ⟨g, o, none⟩) n c, .slice A2 m c2] wz t3 (l2 ++ flds 1 (lst [f 4, f 5, f 6, f 7, f 11, f 12, f 13, f 16, f 17, f 18]) q)) ∧ Hid (wz.heap[kb]? = some (.cells (kcs f) 46 (0, 0))) ∧ Hid (wz.heap[wx.heap.size]? = some (.cells ([f 4, f 5, f 6, f 7, f 11, f 12, f 13, f 16, f 17, f 18].map fun v => Value.int .i64 v).toArray 3 (0, 0)))) (fun _ i _ => 10 - (intOf i).toNat)
          case atStart => exact ⟨0, by omega, rfl, by show Wk _ _ _ _ _ _ _ _ _; rw [flds, List.append_nil]; exact hX.out.alloc _, blk_keep hB.out (below_box _), alloc_blk _ _ _⟩
          case round =>
            obtain ⟨q, hq, rfl, hX2, hB2, hG⟩ := hrel
            clear hX hB
            rename World => wz
            by_cases hq8 : q < 10
            · have hq8' : (q : Int) < 10 := by omega
              have cq := ints_cell (n := 10) hG.out rfl hq8
              obtain ⟨a0, a1⟩ : 0 ≤ lst [f 4, f 5, f 6, f 7, f 11, f 12, f 13, f 16, f 17, f 18] q ∧ lst [f 4, f 5, f 6, f 7, f 11, f 12, f 13, f 16, f 17, f 18] q ≤ 255 := lst_le [f 4, f 5, f 6, f 7, f 11, f 12, f 13, f 16, f 17, f 18] (n := 10) rfl (fun v hv => by
                simp only [List.mem_cons, List.not_mem_nil, or_false] at hv
                rcases hv with rfl | rfl | rfl | rfl | rfl | rfl | rfl | rfl | rfl | rfl
                · exact HJ1.out 4 (by decide) (by decide) (by decide) (by decide) (by decide) (by decide) (by decide) (by decide) (by decide) (by decide)
                · exact HJ1.out 5 (by decide) (by decide) (by decide) (by decide) (by decide) (by decide) (by decide) (by decide) (by decide) (by decide)
                · exact HJ1.out 6 (by decide) (by decide) (by decide) (by decide) (by decide) (by decide) (by decide) (by decide) (by decide) (by decide)
                · exact HJ1.out 7 (by decide) (by decide) (by decide) (by decide) (by decide) (by decide) (by decide) (by decide) (by decide) (by decide)
                · exact HJ1.out 11 (by decide) (by decide) (by decide) (by decide) (by decide) (by decide) (by decide) (by decide) (by decide) (by decide)
                · exact HJ1.out 12 (by decide) (by decide) (by decide) (by decide) (by decide) (by decide) (by decide) (by decide) (by decide) (by decide)
                · exact HJ1.out 13 (by decide) (by decide) (by decide) (by decide) (by decide) (by decide) (by decide) (by decide) (by decide) (by decide)
                · exact HJ1.out 16 (by decide) (by decide) (by decide) (by decide) (by decide) (by decide) (by decide) (by decide) (by decide) (by decide)
                · exact HJ1.out 17 (by decide) (by decide) (by decide) (by decide) (by decide) (by decide) (by decide) (by decide) (by decide) (by decide)
                · exact HJ1.out 18 (by decide) (by decide) (by decide) (by decide) (by decide) (by decide) (by decide) (by decide) (by decide) (by decide)) q hq8
              have HQ : Hid (l2 ++ flds 1 (lst [f 4, f 5, f 6, f 7, f 11, f 12, f 13, f 16, f 17, f 18]) (q + 1) = (l2 ++ flds 1 (lst [f 4, f 5, f 6, f 7, f 11, f 12, f 13, f 16, f 17, f 18]) q) ++ [(lst [f 4, f 5, f 6, f 7, f 11, f 12, f 13, f 16, f 17, f 18] q).toNat % 256]) := by show _ = _; rw [flds, List.append_assoc]; rfl
              have HM : Hid ((l2 ++ flds 1 (lst [f 4, f 5, f 6, f 7, f 11, f 12, f 13, f 16, f 17, f 18]) q).length ≤ 200000) := by have := HN2.out; show _ ≤ _; rw [List.length_append, flds_length]; omega
              obtain ⟨x, ex⟩ : ∃ x : Int, lst [f 4, f 5, f 6, f 7, f 11, f 12, f 13, f 16, f 17, f 18] q = x := ⟨_, rfl⟩
              rw [ex] at cq a0 a1 HQ
              obtain ⟨y, u1, ey⟩ := byteOf a0 a1
              rw [ey] at HQ
              obtain ⟨l3, el⟩ : ∃ l3, l2 ++ flds 1 (lst [f 4, f 5, f 6, f 7, f 11, f 12, f 13, f 16, f 17, f 18]) q = l3 := ⟨_, rfl⟩
              rw [el] at HM HQ hX2
              clear ex el a0 a1 ey
              go_wp2_with (at_builtin; refine append_new rfl (.tmp 94) (.tmp 97) rfl w.heap.size l3 [y] 1 _ _ wz rfl hX2.out.row rfl rfl rfl (by simp) (by have := HM.out; simp; omega) hX2.out.hB ?_; intro v4 w4 hr he)
              have X4 := Lib.hid (hX2.out.step hte hr he)
              have B4 := Lib.hid (blk_ext hB2.out htk hX2.out.row he)
              have G4 := Lib.hid (blk_ext hG.out hti hX2.out.row he)
              clear hr he hX2 hB2 hG
              go_roundw
              case rel => exact ⟨q + 1, by omega, by go_num, by show Wk _ _ _ _ _ _ _ _ _; rw [HQ.out]; exact X4.out, B4.out, G4.out⟩
              case measure => simp [intOf]; omega
            · have e : q = 10 := by omega
              have hge : ¬ (q : Int) < 10 := by omega
              rw [e] at hX2
              clear hG e
              have HN3 : Hid ((l2 ++ flds 1 (lst [f 4, f 5, f 6, f 7, f 11, f 12, f 13, f 16, f 17, f 18]) 10).length ≤ 100040) := by have := HN2.out; show _ ≤ _; rw [List.length_append, flds_length]; omega
              obtain ⟨l3, el⟩ : ∃ l3, l2 ++ flds 1 (lst [f 4, f 5, f 6, f 7, f 11, f 12, f 13, f 16, f 17, f 18]) 10 = l3 := ⟨_, rfl⟩
              rw [el] at hX2 HS HN3
              clear el HN2
              obtain ⟨v, ev⟩ : ∃ v : Nat, f 2 = (v : Int) := ⟨(f 2).toNat, by have := HF.out; omega⟩
              have HV : Hid (v ≤ 262144) := by have := HF.out; show _ ≤ _; omega
              have c2 := blk_cell hB2.out 2 (x := .int .i64 (f 2)) rfl
              rw [ev] at c2 HS
              have HW2 : Hid (spd (v : Int) < 18446744073709551616) := (spd_in (v : Int) (by omega) (by have := HV.out; omega)).2.1
              have HFl := Lib.hid (fun W => float_any v W HV.out)
              obtain ⟨s, es⟩ : ∃ s, spd (v : Int) = s := ⟨_, rfl⟩
              rw [es] at HS HW2 HFl
              clear ev HF HJ HJ1 es
              go_wp2_with fail
              refine (HFl.out _).mono ?_
              rintro e w5 ⟨rfl, rfl⟩
              go_wp2_with fail
              refine (put_any s 8 _ (by decide) HW2.out).mono ?_
              rintro e w6 ⟨vm, rfl, hm, b3⟩
              have HP := Lib.hid hm
              have X3 := Lib.hid (hX2.out.keep b3)
              clear hm b3 hX2 hB2 c2
              go_wp2_with (at_builtin; refine append_put rfl (.tmp 100) (.tmp 104) rfl w.heap.size _ l3 (le 8 s) _ _ w6 rfl X3.out.row rfl HP.out (by rw [le_length]; decide) (by have := HN3.out; rw [le_length]; omega) X3.out.hB ?_; intro v4 w4 hr he)
              have X4 := Lib.hid (X3.out.step hte hr he)
              clear hr he X3
              go_roundw
              case rel => exact ⟨k + 1, by omega, by go_num, by show Wk _ _ _ _ _ _ _ _ _; rw [HS.out]; exact X4.out⟩
              case measure => simp [intOf]; omega
    · have hkn : k = n := by omega
      subst hkn
      have hge : ¬ (k : Int) < (k : Int) := by omega
      clear HK OK
      go_wp2
      clear b0
      rename World => W1
      go_loopw [3, 10] (fun t3 i wr => ∃ j : Nat, j ≤ m ∧ i = .int .i64 (j : Int) ∧ Hid (Wk w (.slice none 0 0) w.heap.size w.heap.size 26 #[.slice A k c, .slice A2 m c2] wr t3 ([k, m] ++ (kbys K k ++ wbys U F j)))) (fun _ i _ => m - (intOf i).toNat)
      case atStart => exact ⟨0, by omega, rfl, by show Wk _ _ _ _ _ _ _ _ _; rw [wbys, List.append_nil]; exact hX.out⟩
      case round =>
        obtain ⟨j, hj, rfl, hX2⟩ := hrel
        clear hX
        rename World => wr
        have b1 := hX2.out.cell 1 (x := .slice A2 m c2) rfl
        by_cases hlt2 : j < m
        · have hlt2' : (j : Int) < (m : Int) := by omega
          obtain ⟨g, o, p, rfl, hp, hc⟩ := (HW.out.keep hX2.out.below).one hlt2
          have HL := Lib.hid hc
          clear hc
          obtain ⟨d0, d1, d2, d3, d4, d5, d6, d7, d8, d9⟩ := okW_bd (OW.out j hlt2)
          have HN : Hid (([k, m] ++ (kbys K k ++ wbys U F j)).length ≤ 100000) := by show _ ≤ _; rw [List.length_append, List.length_append, kbys_length, wbys_length]; simp; omega
          have HS : Hid ([k, m] ++ (kbys K k ++ wbys U F (j + 1)) = ((([k, m] ++ (kbys K k ++ wbys U F j)) ++ le 2 (U j 1).toNat) ++ flds 1 (lst [U j 0, U j 3, U j 4, if F j then 1 else 0]) 4) ++ le 8 (spd (U j 2))) := by
            show _ = _
            rw [wbys]
            unfold wby
            have : flds 2 (lst [U j 1]) 1 = le 2 (U j 1).toNat := by simp [flds, lst]
            rw [this]
            simp only [List.append_assoc]
          obtain ⟨l0, el⟩ : ∃ l0, [k, m] ++ (kbys K k ++ wbys U F j) = l0 := ⟨_, rfl⟩
          rw [el] at hX2 HS HN
          obtain ⟨f, ef⟩ : ∃ f, U j = f := ⟨_, rfl⟩
          rw [ef] at HL HS d0 d1 d2 d3 d4 d5 d6 d7 d8 d9
          obtain ⟨y0, u0, e0⟩ := byteOf (a := f 0) (by omega) (by omega)
          obtain ⟨y3, u3, e3⟩ := byteOf (a := f 3) (by omega) (by omega)
          obtain ⟨y4, u4, e4⟩ := byteOf (a := f 4) (by omega) (by omega)
          rw [flds1_four, e0, e3, e4] at HS
          obtain ⟨x, ex⟩ : ∃ x : Nat, f 1 = (x : Int) := ⟨(f 1).toNat, by omega⟩
          have ux : IntKind.u64.wrap (x : Int) = (x : Int) := by simp [IntKind.wrap, IntKind.bits, IntKind.signed]; omega
          have HX9 : Hid (x < 18446744073709551616) := by show _ < _; omega
          rw [ex] at HS
          rw [Int.toNat_natCast] at HS
          obtain ⟨v, ev⟩ : ∃ v : Nat, f 2 = (v : Int) := ⟨(f 2).toNat, by omega⟩
          have HV : Hid (v ≤ 262144) := by show _ ≤ _; omega
          rw [ev] at HS
          have HW2 : Hid (spd (v : Int) < 18446744073709551616) := (spd_in (v : Int) (by omega) (by have := HV.out; omega)).2.1
          have HFl := Lib.hid (fun W => float_any v W HV.out)
          obtain ⟨s, es⟩ : ∃ s, spd (v : Int) = s := ⟨_, rfl⟩
          rw [es] at HS HW2 HFl
          have HE1 := Lib.hid ex
          have HE2 := Lib.hid ev
          clear el ef e0 e3 e4 ex ev es d0 d1 d2 d3 d4 d5 d6 d7 d8 d9
          obtain ⟨b, eb⟩ : ∃ b, F j = b := ⟨_, rfl⟩
          rw [eb] at HL HS
          clear eb
          have X0 := Lib.hid (hX2.out.alloc (.cells (wcs f b) 51))
          have B0 := Lib.hid (alloc_blk wr (wcs f b) 51)
          go_upto_region 22 with (first | (refine wpList_load_at HL.out rfl rfl rfl ?_) | (refine wpList_store_new Try.sizeWeapon rfl rfl rfl rfl rfl rfl rfl (wcs_one _ _) ?_) | (refine wpList_load_at (loadVar_weapon (alloc_blk _ _ _)) rfl rfl rfl ?_))
          clear b1 HL hp
          generalize wr.alloc (.cells (wcs f b) 51) = w1 at *
          obtain ⟨kb, ekb⟩ : ∃ kb, wr.heap.size = kb := ⟨_, rfl⟩
          rw [ekb] at B0 ⊢
          clear ekb hX2
          cases b
          case false =>
            have HS2 : Hid ([k, m] ++ (kbys K k ++ wbys U F (j + 1)) = ((l0 ++ le 2 x) ++ [y0, y3, y4, 0]) ++ le 8 s) := by
              show _ = _
              have := HS.out
              simpa using this
            clear HS
            have c5 := blk_cell B0.out 5 (x := .bool false) rfl
            have c1 := blk_cell B0.out 1 (x := .int .i64 (f 1)) rfl
            rw [HE1.out] at c1
            go_wp2_with fail
            refine (put_any x 2 _ (by decide) HX9.out).mono ?_
            rintro e w3 ⟨vm, rfl, hm, b3⟩
            have HP := Lib.hid hm
            have X3 := Lib.hid (X0.out.keep b3)
            have B3 := Lib.hid (blk_keep B0.out b3)
            clear hm b3 X0 B0 c5 c1
            go_upto_region 26 with (at_builtin; refine append_put rfl (.tmp 120) (.tmp 124) rfl w.heap.size _ l0 (le 2 x) _ _ w3 rfl X3.out.row rfl HP.out (by rw [le_length]; decide) (by have := HN.out; rw [le_length]; omega) X3.out.hB ?_; intro v4 w4 hr he)
            have X4 := Lib.hid (X3.out.step hte hr he)
            have B4 := Lib.hid (blk_ext B3.out htw X3.out.row he)
            clear hr he X3 B3 HP
            have HN1 : Hid ((l0 ++ le 2 x).length ≤ 100002) := by have := HN.out; show _ ≤ _; rw [List.length_append, le_length]; omega
            obtain ⟨l1, el⟩ : ∃ l1, l0 ++ le 2 x = l1 := ⟨_, rfl⟩
            rw [el] at X4 HS2 HN1
            clear el HN
            have c0 := blk_cell B4.out 0 (x := .int .i64 (f 0)) rfl
            have c3 := blk_cell B4.out 3 (x := .int .i64 (f 3)) rfl
            have c4 := blk_cell B4.out 4 (x := .int .i64 (f 4)) rfl
            go_upto_region 27 with (at_builtin; refine append_new rfl (.tmp 126) (.tmp 138) rfl w.heap.size l1 [y0, y3, y4, 0] 4 _ _ w4 rfl X4.out.row rfl rfl rfl (by simp) (by have := HN1.out; simp; omega) X4.out.hB ?_; intro v5 w5 hr he)
            have X5 := Lib.hid (X4.out.step hte hr he)
            have B5 := Lib.hid (blk_ext B4.out htw X4.out.row he)
            clear hr he X4 B4 c0 c3 c4
            have HN2 : Hid ((l1 ++ [y0, y3, y4, 0]).length ≤ 100010) := by have := HN1.out; show _ ≤ _; simp; omega
            obtain ⟨l2, el⟩ : ∃ l2, l1 ++ [y0, y3, y4, 0] = l2 := ⟨_, rfl⟩
            rw [el] at X5 HS2 HN2
            clear el HN1
            have c2 := blk_cell B5.out 2 (x := .int .i64 (f 2)) rfl
            rw [HE2.out] at c2
            go_wp2_with fail
            refine (HFl.out _).mono ?_
            rintro e w6 ⟨rfl, rfl⟩
            go_wp2_with fail
            refine (put_any s 8 _ (by decide) HW2.out).mono ?_
            rintro e w7 ⟨vm2, rfl, hm, b3⟩
            have HP := Lib.hid hm
            have X6 := Lib.hid (X5.out.keep b3)
            clear hm b3 X5 B5 c2
            go_wp2_with (at_builtin; refine append_put rfl (.tmp 140) (.tmp 144) rfl w.heap.size _ l2 (le 8 s) _ _ w7 rfl X6.out.row rfl HP.out (by rw [le_length]; decide) (by have := HN2.out; rw [le_length]; omega) X6.out.hB ?_; intro v8 w8 hr he)
            have X8 := Lib.hid (X6.out.step hte hr he)
            clear hr he X6
            go_roundw
            case rel => exact ⟨j + 1, by omega, by go_num, by show Wk _ _ _ _ _ _ _ _ _; rw [HS2.out]; exact X8.out⟩
            case measure => simp [intOf]; omega
          case true =>
            have HS2 : Hid ([k, m] ++ (kbys K k ++ wbys U F (j + 1)) = ((l0 ++ le 2 x) ++ [y0, y3, y4, 1]) ++ le 8 s) := by
              show _ = _
              have := HS.out
              simpa using this
            clear HS
            have c5 := blk_cell B0.out 5 (x := .bool true) rfl
            have c1 := blk_cell B0.out 1 (x := .int .i64 (f 1)) rfl
            rw [HE1.out] at c1
            go_wp2_with fail
            refine (put_any x 2 _ (by decide) HX9.out).mono ?_
            rintro e w3 ⟨vm, rfl, hm, b3⟩
            have HP := Lib.hid hm
            have X3 := Lib.hid (X0.out.keep b3)
            have B3 := Lib.hid (blk_keep B0.out b3)
            clear hm b3 X0 B0 c5 c1
            go_upto_region 26 with (at_builtin; refine append_put rfl (.tmp 120) (.tmp 124) rfl w.heap.size _ l0 (le 2 x) _ _ w3 rfl X3.out.row rfl HP.out (by rw [le_length]; decide) (by have := HN.out; rw [le_length]; omega) X3.out.hB ?_; intro v4 w4 hr he)
            have X4 := Lib.hid (X3.out.step hte hr he)
            have B4 := Lib.hid (blk_ext B3.out htw X3.out.row he)
            clear hr he X3 B3 HP
            have HN1 : Hid ((l0 ++ le 2 x).length ≤ 100002) := by have := HN.out; show _ ≤ _; rw [List.length_append, le_length]; omega
            obtain ⟨l1, el⟩ : ∃ l1, l0 ++ le 2 x = l1 := ⟨_, rfl⟩
            rw [el] at X4 HS2 HN1
            clear el HN
            have c0 := blk_cell B4.out 0 (x := .int .i64 (f 0)) rfl
            have c3 := blk_cell B4.out 3 (x := .int .i64 (f 3)) rfl
            have c4 := blk_cell B4.out 4 (x := .int .i64 (f 4)) rfl
            go_upto_region 27 with (at_builtin; refine append_new rfl (.tmp 126) (.tmp 138) rfl w.heap.size l1 [y0, y3, y4, 1] 4 _ _ w4 rfl X4.out.row rfl rfl rfl (by simp) (by have := HN1.out; simp; omega) X4.out.hB ?_; intro v5 w5 hr he)
            have X5 := Lib.hid (X4.out.step hte hr he)
            have B5 := Lib.hid (blk_ext B4.out htw X4.out.row he)
            clear hr he X4 B4 c0 c3 c4
            have HN2 : Hid ((l1 ++ [y0, y3, y4, 1]).length ≤ 100010) := by have := HN1.out; show _ ≤ _; simp; omega
            obtain ⟨l2, el⟩ : ∃ l2, l1 ++ [y0, y3, y4, 1] = l2 := ⟨_, rfl⟩
            rw [el] at X5 HS2 HN2
            clear el HN1
            have c2 := blk_cell B5.out 2 (x := .int .i64 (f 2)) rfl
            rw [HE2.out] at c2
            go_wp2_with fail
            refine (HFl.out _).mono ?_
            rintro e w6 ⟨rfl, rfl⟩
            go_wp2_with fail
            refine (put_any s 8 _ (by decide) HW2.out).mono ?_
            rintro e w7 ⟨vm2, rfl, hm, b3⟩
            have HP := Lib.hid hm
            have X6 := Lib.hid (X5.out.keep b3)
            clear hm b3 X5 B5 c2
            go_wp2_with (at_builtin; refine append_put rfl (.tmp 140) (.tmp 144) rfl w.heap.size _ l2 (le 8 s) _ _ w7 rfl X6.out.row rfl HP.out (by rw [le_length]; decide) (by have := HN2.out; rw [le_length]; omega) X6.out.hB ?_; intro v8 w8 hr he)
            have X8 := Lib.hid (X6.out.step hte hr he)
            clear hr he X6
            go_roundw
            case rel => exact ⟨j + 1, by omega, by go_num, by show Wk _ _ _ _ _ _ _ _ _; rw [HS2.out]; exact X8.out⟩
            case measure => simp [intOf]; omega
        · have hjm : j = m := by omega
          subst hjm
          have hge2 : ¬ (j : Int) < (j : Int) := by omega
          go_wp2
          go_ret
          exact ⟨_, rfl, by rw [HY.out]; exact hX2.out.row, hX2.out.below⟩
end Go.Proofs.Ytpgifcgidelmaaa
