/- Entries in memory and in rows of the call's own; maps by squares. -/
import Derived.Test.YtkghjaodnkjmoaaNr2
import Derived.WideKeyEntry
import Derived.WideKeyPair
import Derived.Maps.RangeRun
namespace Go.Proofs.Ytkghjaodnkjmoaa
open Go.RowKit Go.Sort Go.MapKept Go.ChangeMaps
open Go.WideMaps (ArrKey KeyLaw)
set_option linter.unusedVariables false

/-! ### Entries -/
section
variable (X Y : Nat → Int)
/-- The cells of entries, one behind another. -/
def ens (l : List Nat) : List Value := l.flatMap fun i : Nat => [.int .i64 (i : Int), .int .i64 (X i), .int .i64 (Y i)]
theorem ens_append (l m : List Nat) : ens X Y (l ++ m) = ens X Y l ++ ens X Y m := by simp [ens]
theorem ens_len (l : List Nat) : (ens X Y l).length = l.length * 3 := by
  induction l with
  | nil => rfl
  | cons a l ih =>
    have : ens X Y (a :: l) = [.int .i64 (a : Int), .int .i64 (X a), .int .i64 (Y a)] ++ ens X Y l := rfl
    rw [this, List.length_append, ih]
    simp only [List.length_cons, List.length_nil]
    omega
theorem ens_at : ∀ (l : List Nat) (i e : Nat), l[i]? = some e → ∀ r, r < 3 → (ens X Y l)[i * 3 + r]? = ([.int .i64 (e : Int), .int .i64 (X e), .int .i64 (Y e)] : List Value)[r]?
  | [], i, e, h, _, _ => by simp at h
  | a :: l, i, e, h, r, hr => by
    have h0 : ens X Y (a :: l) = [.int .i64 (a : Int), .int .i64 (X a), .int .i64 (Y a)] ++ ens X Y l := rfl
    rw [h0]
    cases i with
    | zero =>
      simp at h
      subst h
      rw [List.getElem?_append_left (by simp; omega), Nat.zero_mul, Nat.zero_add]
    | succ i =>
      simp at h
      rw [List.getElem?_append_right (by simp; omega)]
      have := ens_at l i e h r hr
      rw [← this]
      congr 1
      simp
      omega
theorem ens_one {l : List Nat} {u : Value} (h : u ∈ ens X Y l) : u.oneCell' = true := by
  unfold ens at h
  obtain ⟨i, _, hu⟩ := List.mem_flatMap.1 h
  simp at hu
  rcases hu with rfl | rfl | rfl <;> rfl
/-- The entries l lie at A. -/
def Es (w : World) (A : Option Addr) (l : List Nat) : Prop :=
  0 < l.length → ∃ g o, A = some ⟨g, o, none⟩ ∧ g < w.heap.size ∧ ∀ j u, (ens X Y l)[j]? = some u → w.cell? ⟨g, o + j, none⟩ = some u
theorem Es.keep {w w' : World} {A : Option Addr} {l : List Nat} (h : Es X Y w A l) (hb : RowKit.Below w.heap.size w w') : Es X Y w' A l := by
  intro hn
  obtain ⟨g, o, e, hg, hc⟩ := h hn
  exact ⟨g, o, e, Nat.lt_of_lt_of_le hg hb.size, fun j u hj => kc hb (hc j u hj)⟩
/-- One entry's cells. -/
theorem Es.at {w : World} {A : Option Addr} {l : List Nat} (h : Es X Y w A l) {i e : Nat} (hi : l[i]? = some e) :
    ∃ g o, A = some ⟨g, o, none⟩ ∧ g < w.heap.size ∧ w.cell? ⟨g, o + i * 3, none⟩ = some (.int .i64 (e : Int)) ∧ w.cell? ⟨g, o + i * 3 + 1, none⟩ = some (.int .i64 (X e)) ∧ w.cell? ⟨g, o + i * 3 + 2, none⟩ = some (.int .i64 (Y e)) := by
  have hl := (List.getElem?_eq_some_iff.1 hi).1
  obtain ⟨g, o, e', hg, hc⟩ := h (by omega)
  exact ⟨g, o, e', hg, hc _ _ (ens_at X Y l i e hi 0 (by omega)), hc (i * 3 + 1) _ (ens_at X Y l i e hi 1 (by omega)), hc (i * 3 + 2) _ (ens_at X Y l i e hi 2 (by omega))⟩
/-- v is a row of the call's own that holds these entries. -/
def Re (w : World) (base : Nat) (v : Value) (l : List Nat) : Prop := w.ownsRow base 58 3 v l.length (ens X Y l)
theorem Re.nil (w : World) (base : Nat) : Re X Y w base (.slice none 0 0) [] := World.ownsRow_nil _ _ _ _
theorem Re.keep {w w' : World} {base : Nat} {v : Value} {l : List Nat} (h : Re X Y w base v l) (hb : RowKit.Below w.heap.size w w') : Re X Y w' base v l :=
  World.ownsRow.kept h (grownBy_below hb none) (by cases v.ownBlock <;> simp)
theorem Re.kept {w w' : World} {base : Nat} {v : Value} {l : List Nat} {row : Option Nat} (h : Re X Y w base v l) (hg : w.grownBy w' row) (hr : v.ownBlock = none ∨ v.ownBlock ≠ row) : Re X Y w' base v l := World.ownsRow.kept h hg hr
theorem Re.lt {w : World} {base : Nat} {v : Value} {l : List Nat} (h : Re X Y w base v l) : ∀ k, v.ownBlock = some k → base ≤ k ∧ k < w.heap.size := World.ownsRow.lt h
/-- Where it holds something it is written out, and may be written. -/
theorem Re.big {w : World} {base : Nat} {v : Value} {l : List Nat} (h : Re X Y w base v l) (h0 : 0 < l.length) :
    ∃ g k cur, v = .slice (some ⟨g, 0, none⟩) l.length k ∧ l.length ≤ k ∧ k ≤ maxLen ∧ base ≤ g ∧ g < w.heap.size ∧ w.heap[g]? = some (.cells cur 58 (0, 0)) ∧ ∀ j u, (ens X Y l)[j]? = some u → w.cell? ⟨g, j, none⟩ = some u := by
  rcases h.2 with ⟨rfl, hn⟩ | ⟨g, cap, cur, rfl, hg, hh, hnc, hcm, _, _⟩
  · omega
  · refine ⟨g, cap, cur, rfl, hnc, hcm, hg, (Array.getElem?_eq_some_iff.1 hh).1, hh, fun j u hj => ?_⟩
    have := World.ownsRow.cellAt h j (by have := (List.getElem?_eq_some_iff.1 hj).1; rw [ens_len] at this; omega)
    rw [this]
    exact hj
theorem Re.es {w : World} {base : Nat} {v : Value} {l : List Nat} (h : Re X Y w base v l) : ∃ A k, v = .slice A l.length k ∧ l.length ≤ k ∧ k ≤ maxLen ∧ Es X Y w A l := by
  rcases h.2 with ⟨rfl, hn⟩ | ⟨g, cap, cur, rfl, hg, hh, hnc, hcm, _, _⟩
  · rw [hn]
    exact ⟨none, 0, rfl, Nat.le_refl _, by simp [maxLen], fun h0 => by omega⟩
  · refine ⟨_, cap, rfl, hnc, hcm, fun h0 => ⟨g, 0, rfl, (Array.getElem?_eq_some_iff.1 hh).1, fun j u hj => ?_⟩⟩
    have := World.ownsRow.cellAt h j (by have := (List.getElem?_eq_some_iff.1 hj).1; rw [ens_len] at this; omega)
    rw [Nat.zero_add, this]
    exact hj
theorem Try.infoE : (Try.prog.info? 58).map (fun i => (i.zero, i.size, i.bytes)) = some (some (.agg #[.int .i64 0, .int .i64 0, .int .i64 0]), 3, 24) := by kernel_rfl
theorem Try.sizeE : (Try.prog.info? 58).map (·.size) = some 3 := by kernel_rfl
/-- 'append(s, x...)' where x's entries lie somewhere. -/
theorem append_ents {ops : Array Oper} {rest : List Oper} {o : Oper} {a : Act} {Q : Exit → Act → World → Prop} (hgd : o.guard = none) (s x : Operand)
    (ho : o.op = .call { callee := .builtin .append, args := #[s, x], argTypes := #[60, 60] })
    (base : Nat) (l m : List Nat) (n c : Nat) (v : Value) (A : Option Addr) (w : World) (hs : a.eval s = v) (hown : Re X Y w base v l)
    (hx : a.eval x = .slice A n c) (hn : m.length = n) (hE : Es X Y w A m) (hm0 : 0 < m.length) (hmn : l.length + m.length ≤ 1000000) (hbase : base ≤ w.heap.size)
    (h : ∀ v' w', Re X Y w' base v' (l ++ m) → Ext w v w' v' → wpList Try.prog ops Q rest (a.put o.dst v') w') :
    wpList Try.prog ops Q (o :: rest) a w := by
  subst hn
  obtain ⟨g, off, rfl, hg, hc⟩ := hE hm0
  refine wpList_plain hgd fun K hK => ?_
  obtain ⟨i0, hi, hz0, hz1, hz2⟩ := info_parts Try.infoE
  have hown0 : w.ownsRow base 58 3 v l.length (ens X Y l) := hown
  obtain ⟨v', w', hr, hown', hgr, hwh⟩ := append_where (P := Try.prog) w base 60 o.type 58 i0 (.agg #[.int .i64 0, .int .i64 0, .int .i64 0]) 3 24 Try.underlying60 hi hz0 hz1 hz2 rfl (by decide) v l.length (ens X Y l) hown0 ⟨g, off, none⟩ m.length c (ens X Y m) (ens_len X Y m)
    (by intro j u hj; have hh := hc j u hj; unfold Addr.add; split <;> simp_all)
    (fun u hu => ens_one X Y hu) hm0 (by unfold maxLen; omega) (by omega) hbase
  unfold Oper.wp execOp
  simp only [ho, resolve, invoke, builtin, Sem.run_bind, Sem.run_pure, Result.andThen_ok, List.map_toArray, List.map_cons, List.map_nil, hs, hx, hr]
  refine hK _ _ (h v' w' ?_ ⟨hgr, ?_⟩)
  · unfold Re
    rw [ens_append, List.length_append]
    exact hown'
  · rcases hwh with e | e
    · exact .inl e
    · exact .inr fun k hk => by rw [e] at hk; injection hk; omega
end

/-! ### Maps by squares -/
/-- A square, as a key. -/
def pk (a b : Int) : Value := .agg #[.int .i64 a, .int .i64 b]
theorem pk_inj {a b a' b' : Int} (h : pk a b = pk a' b') : a = a' ∧ b = b' := by
  unfold pk at h
  simp at h
  exact h
/-- A square's number. -/
def KI (a : Int) : Prop := 0 ≤ a ∧ a ≤ 16
theorem KI.wf {a : Int} (h : KI a) : (Lit.int .i64 a).wf = true := by
  unfold KI at h
  simp [Lit.wf, IntKind.min, IntKind.max, IntKind.bits, IntKind.signed]
  omega
theorem Try.arrKey : ArrKey Try.prog 63 2 2 := ⟨Try.underlying63, by kernel_rfl, by kernel_rfl, by kernel_rfl⟩
theorem Try.keyLaw : KeyLaw Try.prog 63 := Try.arrKey.law
theorem Try.typesSize : ∃ m, Try.prog.types.size = m + 1 := ⟨Try.prog.types.size - 1, by kernel_rfl⟩
theorem key_pk {a b : Int} (ha : KI a) (hb : KI b) : ∃ kl, keyOf Try.prog 63 (pk a b) = some kl := ⟨_, WideMaps.keyOf_pair Try.arrKey Try.underlying2 Try.typesSize ha.wf hb.wf⟩
structure Mp (es : Array MapEntry) (clock : Nat) (f : Int → Int → Option Value) : Prop where
  stamped : Stamped es clock
  key : ∀ x ∈ es.toList, ∃ a b, KI a ∧ KI b ∧ x.key = pk a b ∧ f a b = some x.val
  has : ∀ a b v, f a b = some v → ∃ x ∈ es.toList, x.key = pk a b
theorem Mp.empty : Mp #[] 0 fun _ _ => none := ⟨stamped_empty 0, by simp, by simp⟩
theorem Mp.keys {es : Array MapEntry} {clock : Nat} {f : Int → Int → Option Value} (M : Mp es clock f) : ∀ x ∈ es.toList, ∃ l, keyOf Try.prog 63 x.key = some l := fun x hx => by
  obtain ⟨a, b, ha, hb, e, _⟩ := M.key x hx
  rw [e]
  exact key_pk ha hb
/-- 'm[k]'. -/
theorem mp_look {w : World} {m : Nat} {es : Array MapEntry} {clock : Nat} {f : Int → Int → Option Value} {a b : Int} (hm : w.heap[m]? = some (.map es clock)) (M : Mp es clock f) (ha : KI a) (hb : KI b) :
    (Instr.lookup 54 (.map (some m)) (pk a b) false).run Try.prog w = .ok ((f a b).getD (.slice none 0 0)) w := by
  obtain ⟨kl, hkey⟩ := key_pk ha hb
  have hz := Try.zeroValue60 w
  rcases Try.keyLaw.find w hkey es.toList M.keys with ⟨h1, h2⟩ | ⟨j, e0, h1, h2, h3⟩
  · have hf : f a b = none := by
      cases hq : f a b with
      | none => rfl
      | some v =>
        obtain ⟨x, hx, ex⟩ := M.has a b v hq
        exact absurd ex (h2 x hx)
    rw [hf]
    simp [Instr.lookup, run_underlying Try.underlying54, MapKept.run_getObj_map hm, Try.keyLaw.check w _ hkey, h1, hz, Result.andThen]
  · obtain ⟨a', b', _, _, e, hf⟩ := M.key e0 (List.mem_of_getElem? h2)
    obtain ⟨rfl, rfl⟩ := pk_inj (h3.symm.trans e)
    rw [hf]
    simp [Instr.lookup, run_underlying Try.underlying54, MapKept.run_getObj_map hm, Try.keyLaw.check w _ hkey, h1, Result.andThen]
/-- One key's element, anew. -/
def upd (f : Int → Int → Option Value) (a b : Int) (v : Value) : Int → Int → Option Value := fun a' b' => if a' = a ∧ b' = b then some v else f a' b'
/-- 'm[k]' that is to be stored into: what it holds, and what becomes of the map behind the store. -/
theorem mp_entry {w : World} {m : Nat} {es : Array MapEntry} {clock : Nat} {f : Int → Int → Option Value} {a b : Int} (hm : w.heap[m]? = some (.map es clock)) (M : Mp es clock f) (ha : KI a) (hb : KI b) :
    ∃ (st : Nat) (es1 : Array MapEntry) (clock1 : Nat), (Instr.mapEntry 54 (.map (some m)) (pk a b)).run Try.prog w = .ok (.tuple #[(f a b).getD (.slice none 0 0), goInt st]) (setBlock w m (.map es1 clock1)) ∧
      ∀ (w2 : World) (val : Value), w2.heap[m]? = some (.map es1 clock1) → ∃ es' clock', (Instr.entryStore 54 (.map (some m)) (goInt st) val).run Try.prog w2 = .ok () (setBlock w2 m (.map es' clock')) ∧ Mp es' clock' (upd f a b val) := by
  obtain ⟨kl, hkey⟩ := key_pk ha hb
  have hz := Try.zeroValue60 w
  obtain ⟨s1, s2, s3⟩ := M.stamped
  rcases Try.keyLaw.find w hkey es.toList M.keys with ⟨h1, h2⟩ | ⟨j, e0, h1, h2, h3⟩
  · have hf : f a b = none := by
      cases hq : f a b with
      | none => rfl
      | some v =>
        obtain ⟨x, hx, ex⟩ := M.has a b v hq
        exact absurd ex (h2 x hx)
    refine ⟨clock, es.push ⟨pk a b, .slice none 0 0, clock⟩, clock + 1, ?_, fun w2 val hw2 => ⟨es.push ⟨pk a b, val, clock⟩, clock + 1, ?_, ?_, ?_, ?_⟩⟩
    · rw [hf]
      simp [Instr.mapEntry, run_underlying Try.underlying54, MapKept.run_getObj_map hm, Try.keyLaw.check w false hkey, h1, hz, MapKept.run_setObj_map _ hm, Result.andThen, setBlock]
    · have hidx : (es.push ⟨pk a b, .slice none 0 0, clock⟩).findIdx? (fun e => ((e.born : Nat) : Int) == ((clock : Nat) : Int)) = some es.size := by
        rw [WideElems.findIdx_arr]
        have := WideElems.findIdx_born (l := (es.push ⟨pk a b, .slice none 0 0, clock⟩).toList) (j := es.size) (e0 := ⟨pk a b, .slice none 0 0, clock⟩) (by
          simp only [Array.toList_push, List.map_append, List.map_cons, List.map_nil]
          refine List.nodup_append.2 ⟨s2, by simp, fun a ha c hc e1 => ?_⟩
          simp only [List.mem_singleton] at hc
          obtain ⟨x, hx, rfl⟩ := List.mem_map.1 ha
          have := s1 x hx
          omega) (by simp)
        exact this
      have hmod : (es.push ⟨pk a b, .slice none 0 0, clock⟩).modify es.size (fun e => { e with val := val }) = es.push ⟨pk a b, val, clock⟩ := by
        apply Array.ext'
        rw [Array.toList_modify, Array.toList_push, Array.toList_push, ← Array.length_toList, WideElems.modify_last]
      simp [Instr.entryStore, MapKept.run_getObj_map hw2, asInt, asIntOf, goInt, hidx, hmod, MapKept.run_setObj_map _ hw2, Result.andThen, setBlock]
    · exact stamped_push M.stamped h2
    · intro x hx
      simp only [Array.toList_push, List.mem_append, List.mem_singleton] at hx
      rcases hx with hx | rfl
      · obtain ⟨a', b', ka, kb, e, hf'⟩ := M.key x hx
        refine ⟨a', b', ka, kb, e, ?_⟩
        unfold upd
        rw [if_neg (by rintro ⟨rfl, rfl⟩; exact h2 x hx e)]
        exact hf'
      · exact ⟨a, b, ha, hb, rfl, by unfold upd; rw [if_pos ⟨rfl, rfl⟩]⟩
    · intro a' b' v hv
      unfold upd at hv
      split at hv
      · rename_i hab
        obtain ⟨rfl, rfl⟩ := hab
        exact ⟨⟨pk a' b', val, clock⟩, by simp, rfl⟩
      · obtain ⟨x, hx, ex⟩ := M.has a' b' v hv
        exact ⟨x, by simp at hx ⊢; exact .inl hx, ex⟩
  · have hj : es[j]? = some e0 := by simpa using h2
    obtain ⟨a', b', _, _, e, hf⟩ := M.key e0 (List.mem_of_getElem? h2)
    obtain ⟨rfl, rfl⟩ := pk_inj (h3.symm.trans e)
    have hsame : es.modify j (fun e => { e with key := pk a b }) = es := by
      apply Array.ext'
      rw [Array.toList_modify, modify_eq_set _ _ _ _ h2]
      have : ({ e0 with key := pk a b } : MapEntry) = e0 := by rw [← h3]
      rw [this]
      exact WideElems.set_self _ _ _ h2
    have hjl : j < es.toList.length := (List.getElem?_eq_some_iff.1 h2).1
    refine ⟨e0.born, es, clock, ?_, fun w2 val hw2 => ⟨es.modify j (fun e' => { e' with key := pk a b, val := val }), clock, ?_, ?_, ?_, ?_⟩⟩
    · rw [hf]
      simp [Instr.mapEntry, run_underlying Try.underlying54, MapKept.run_getObj_map hm, Try.keyLaw.check w false hkey, h1, hj, h3, Try.keyLaw.stays w hkey, hsame, MapKept.run_setObj_map _ hm, Result.andThen, setBlock]
    · have hidx : es.findIdx? (fun e => ((e.born : Nat) : Int) == ((e0.born : Nat) : Int)) = some j := by
        rw [WideElems.findIdx_arr]
        exact WideElems.findIdx_born s2 h2
      have hmod : es.modify j (fun e => { e with val := val }) = es.modify j (fun e' => { e' with key := pk a b, val := val }) := by
        apply Array.ext'
        rw [Array.toList_modify, Array.toList_modify, modify_eq_set _ _ _ _ h2, modify_eq_set _ _ _ _ h2, ← h3]
      simp [Instr.entryStore, MapKept.run_getObj_map hw2, asInt, asIntOf, goInt, hidx, hmod, MapKept.run_setObj_map _ hw2, Result.andThen, setBlock]
    · refine stamped_modify M.stamped _ _ (fun _ _ => rfl) (fun e' _ he' => ?_)
      rw [hj] at he'
      cases he'
      exact h3.symm
    · intro x hx
      rw [Array.toList_modify, modify_eq_set _ _ _ _ h2] at hx
      obtain ⟨i, hi, ex⟩ := List.getElem_of_mem hx
      rw [List.getElem_set] at ex
      split at ex
      · subst ex
        exact ⟨a, b, ha, hb, rfl, by unfold upd; rw [if_pos ⟨rfl, rfl⟩]⟩
      · rename_i hne
        have hi' : i < es.toList.length := by simpa using hi
        have hxm : x ∈ es.toList := ex ▸ List.getElem_mem hi'
        obtain ⟨a', b', ka, kb, e2, hf'⟩ := M.key x hxm
        refine ⟨a', b', ka, kb, e2, ?_⟩
        unfold upd
        rw [if_neg ?_]
        · exact hf'
        · rintro ⟨rfl, rfl⟩
          have hki : (es.toList.map (·.key))[i]? = (es.toList.map (·.key))[j]? := by
            rw [List.getElem?_map, List.getElem?_map, h2, List.getElem?_eq_getElem hi', ex]
            simp [e2, e]
          have := (List.getElem?_inj (by simpa using hi') s3).1 hki
          omega
    · intro a' b' v hv
      rw [Array.toList_modify, modify_eq_set _ _ _ _ h2]
      unfold upd at hv
      split at hv
      · rename_i hab
        obtain ⟨rfl, rfl⟩ := hab
        exact ⟨{ e0 with key := pk a' b', val := val }, List.mem_iff_getElem.2 ⟨j, by simpa using hjl, by simp⟩, rfl⟩
      · rename_i hab
        obtain ⟨x, hx, ex⟩ := M.has a' b' v hv
        obtain ⟨i, hi, ei⟩ := List.getElem_of_mem hx
        refine ⟨x, List.mem_iff_getElem.2 ⟨i, by simpa using hi, ?_⟩, ex⟩
        rw [List.getElem_set, if_neg, ei]
        rintro rfl
        have : e0 = x := by
          rw [List.getElem?_eq_getElem hi, ei] at h2
          exact (Option.some.inj h2).symm
        subst this
        obtain ⟨q1, q2⟩ := pk_inj (e.symm.trans ex)
        exact hab ⟨q1.symm, q2.symm⟩
section
variable {ops : Array Oper} {rest : List Oper} {o : Oper} {a : Act} {Q : Exit → Act → World → Prop}
theorem wpList_mapEntry {w w' : World} {t : TypeId} {x y : Operand} {u k v : Value} (hl : (Instr.mapEntry t u k).run Try.prog w = .ok v w') (hgd : o.guard = none) (ho : o.op = .mapEntry t x y) (hx : a.eval x = u) (hy : a.eval y = k)
    (h : wpList Try.prog ops Q rest (a.put o.dst v) w') : wpList Try.prog ops Q (o :: rest) a w := by
  refine wpList_plain hgd fun K hK => ?_
  unfold Oper.wp execOp
  simp only [ho, hx, hy, Sem.run_bind, Sem.run_pure, Result.andThen_ok, hl]
  exact hK _ _ h
theorem wpList_entryStore {w w' : World} {t : TypeId} {x y z : Operand} {u s v : Value} (hl : (Instr.entryStore t u s v).run Try.prog w = .ok () w') (hgd : o.guard = none) (ho : o.op = .entryStore t x y z) (hx : a.eval x = u) (hy : a.eval y = s) (hz : a.eval z = v)
    (h : wpList Try.prog ops Q rest (a.put o.dst undef) w') : wpList Try.prog ops Q (o :: rest) a w := by
  refine wpList_plain hgd fun K hK => ?_
  unfold Oper.wp execOp
  simp only [ho, hx, hy, hz, Sem.run_bind, Sem.run_pure, Result.andThen_ok, hl]
  exact hK _ _ h
end

/-- What is not cells and not a map may turn; all that is lies as it lay, below block B. -/
theorem setBlock_grown (w : World) (m : Nat) (o : Obj) : w.grownBy (setBlock w m o) (some m) :=
  ⟨rfl, rfl, rfl, by simp [setBlock], fun k hk hne => by
    have : k ≠ m := fun e => hne (by rw [e])
    simp [setBlock, Ne.symm this]⟩

/-! ### An index while it is made -/
section
variable (X Y : Nat → Int)
/-- Block m is a map of the first k spots, by squares; what it holds is the call's own. -/
structure Mg (w : World) (base m k : Nat) : Prop where
  ge : base ≤ m
  data : ∃ es clock f, w.heap[m]? = some (.map es clock) ∧ Mp es clock f ∧ (∀ a b, grp X Y k a b = [] → f a b = none) ∧
    (∀ a b, grp X Y k a b ≠ [] → ∃ v, f a b = some v ∧ Re X Y w base v (grp X Y k a b)) ∧
    ∀ a b a' b' v v', f a b = some v → f a' b' = some v' → ¬ (a = a' ∧ b = b') → v.ownBlock ≠ v'.ownBlock
theorem Re.block {w : World} {base : Nat} {v : Value} {l : List Nat} (h : Re X Y w base v l) {k : Nat} (hk : v.ownBlock = some k) : ∃ cur, w.heap[k]? = some (.cells cur 58 (0, 0)) := by
  rcases h.2 with ⟨rfl, hn⟩ | ⟨g, cap, cur, rfl, hg, hh, hnc, hcm, _, _⟩
  · simp [Value.ownBlock] at hk
  · simp [Value.ownBlock] at hk
    subst hk
    exact ⟨cur, hh⟩
theorem Mg.keep {w w' : World} {base m k : Nat} (h : Mg X Y w base m k) (hb : RowKit.Below w.heap.size w w') : Mg X Y w' base m k := by
  obtain ⟨ge, es, clock, f, hm, M, h1, h2, h3⟩ := h
  refine ⟨ge, es, clock, f, (hb.block m (Array.getElem?_eq_some_iff.1 hm).1).trans hm, M, h1, fun a b hab => ?_, h3⟩
  obtain ⟨v, e, hr⟩ := h2 a b hab
  exact ⟨v, e, hr.keep X Y hb⟩
theorem Mg.made (w : World) : Mg X Y (w.alloc (.map #[] 0)) w.heap.size w.heap.size 0 :=
  ⟨Nat.le_refl _, #[], 0, fun _ _ => none, World.alloc_heap_new w _, Mp.empty, fun _ _ _ => rfl, fun a b h => absurd (by simp [grp]) h, by simp⟩
theorem grp_none {k : Nat} {a b : Int} (h : ¬ (KI a ∧ KI b)) : grp X Y k a b = [] := by
  apply List.eq_nil_iff_forall_not_mem.2
  intro i hi
  obtain ⟨_, h1, h2⟩ := mem_grp.1 hi
  apply h
  rw [← h1, ← h2]
  exact ⟨⟨sqv_lo _, sqv_hi _⟩, ⟨sqv_lo _, sqv_hi _⟩⟩
/-- One spot more: the entry that is asked for, the row that grows, and what becomes of all. -/
theorem Mg.step {w : World} {base m k : Nat} (h : Mg X Y w base m k) :
    ∃ (v0 : Value) (st : Nat) (w1 : World), (Instr.mapEntry 54 (.map (some m)) (pk (sqv (X k)) (sqv (Y k)))).run Try.prog w = .ok (.tuple #[v0, Value.int .i64 (st : Int)]) w1 ∧ w.grownBy w1 (some m) ∧ w1.heap.size = w.heap.size ∧
      Re X Y w1 base v0 (grp X Y k (sqv (X k)) (sqv (Y k))) ∧
      ∀ (v1 : Value) (w2 : World), Re X Y w2 base v1 (grp X Y k (sqv (X k)) (sqv (Y k)) ++ [k]) → Ext w1 v0 w2 v1 → ∃ w3, (Instr.entryStore 54 (.map (some m)) (Value.int .i64 (st : Int)) v1).run Try.prog w2 = .ok () w3 ∧ Mg X Y w3 base m (k + 1) ∧ RowKit.Below base w w3 := by
  obtain ⟨ge, es, clock, f, hm, M, h1, h2, h3⟩ := h
  have hlt := (Array.getElem?_eq_some_iff.1 hm).1
  obtain ⟨st, es1, clock1, hrun, hst⟩ := mp_entry hm M ⟨sqv_lo (X k), sqv_hi (X k)⟩ ⟨sqv_lo (Y k), sqv_hi (Y k)⟩
  obtain ⟨w1, hw1⟩ : ∃ w1, setBlock w m (.map es1 clock1) = w1 := ⟨_, rfl⟩
  have hg1 : w.grownBy w1 (some m) := by rw [← hw1]; exact setBlock_grown _ _ _
  have hm1 : w1.heap[m]? = some (.map es1 clock1) := by rw [← hw1]; exact heap_setBlock_same hm _
  have hs1 : w1.heap.size = w.heap.size := by rw [← hw1]; simp [setBlock]
  have nm : ∀ {u : World} {v : Value} {l : List Nat} {e c}, u.heap[m]? = some (.map e c) → Re X Y u base v l → v.ownBlock = none ∨ v.ownBlock ≠ some m := by
    intro u v l e c hu hr
    cases ho : v.ownBlock with
    | none => exact .inl rfl
    | some g =>
      refine .inr fun e2 => ?_
      injection e2 with e2
      subst e2
      obtain ⟨cur, hh⟩ := hr.block X Y ho
      rw [hu] at hh
      cases hh
  have r0 : Re X Y w base ((f (sqv (X k)) (sqv (Y k))).getD (.slice none 0 0)) (grp X Y k (sqv (X k)) (sqv (Y k))) := by
    by_cases hq : grp X Y k (sqv (X k)) (sqv (Y k)) = []
    · rw [h1 _ _ hq, hq]
      exact Re.nil X Y w base
    · obtain ⟨v, e, hr⟩ := h2 _ _ hq
      rw [e]
      exact hr
  rw [hw1] at hrun
  refine ⟨_, st, w1, hrun, hg1, hs1, r0.kept X Y hg1 (nm hm r0), ?_⟩
  intro v1 w2 hr1 hE
  have hm2 : w2.heap[m]? = some (.map es1 clock1) := (hE.grown.block m (by omega) (fun e => by
    rcases nm hm r0 with e2 | e2
    · rw [e2] at e; cases e
    · exact e2 e.symm)).trans hm1
  obtain ⟨es', clock', hrun2, M'⟩ := hst w2 v1 hm2
  obtain ⟨w3, hw3⟩ : ∃ w3, setBlock w2 m (.map es' clock') = w3 := ⟨_, rfl⟩
  have hg3 : w2.grownBy w3 (some m) := by rw [← hw3]; exact setBlock_grown _ _ _
  have hm3 : w3.heap[m]? = some (.map es' clock') := by rw [← hw3]; exact heap_setBlock_same hm2 _
  rw [hw3] at hrun2
  have hgk : grp X Y (k + 1) (sqv (X k)) (sqv (Y k)) = grp X Y k (sqv (X k)) (sqv (Y k)) ++ [k] := by rw [grp_succ, if_pos ⟨rfl, rfl⟩]
  have hgo : ∀ a b, ¬ (a = sqv (X k) ∧ b = sqv (Y k)) → grp X Y (k + 1) a b = grp X Y k a b := by
    intro a b hab
    rw [grp_succ, if_neg (fun ⟨e1, e2⟩ => hab ⟨e1.symm, e2.symm⟩), List.append_nil]
  -- another square's row is another block, and lies as it lay
  have other : ∀ a b v, ¬ (a = sqv (X k) ∧ b = sqv (Y k)) → f a b = some v → Re X Y w base v (grp X Y k a b) → v.ownBlock ≠ v1.ownBlock ∧ Re X Y w3 base v (grp X Y k a b) := by
    intro a b v hab hf hr
    have hne : ∀ g, v.ownBlock = some g → ((f (sqv (X k)) (sqv (Y k))).getD (.slice none 0 0)).ownBlock ≠ some g := by
      intro g hg
      cases hq : f (sqv (X k)) (sqv (Y k)) with
      | none => simp [Value.ownBlock]
      | some v0 =>
        have := h3 a b _ _ v v0 hf hq hab
        rw [hg] at this
        exact fun e => this e.symm
    have hnn : grp X Y k a b ≠ [] := fun e => by rw [h1 a b e] at hf; cases hf
    have hsome : ∃ g, v.ownBlock = some g := by
      obtain ⟨g, c, cur, rfl, -⟩ := hr.big X Y (by cases hl : grp X Y k a b with
        | nil => exact absurd hl hnn
        | cons _ _ => simp)
      exact ⟨g, rfl⟩
    obtain ⟨g, hg⟩ := hsome
    have hgl := (hr.lt X Y g hg).2
    have q1 : Re X Y w1 base v (grp X Y k a b) := hr.kept X Y hg1 (nm hm hr)
    have q2 : Re X Y w2 base v (grp X Y k a b) := q1.kept X Y hE.grown (.inr (by rw [hg]; exact fun e => hne g hg e.symm))
    refine ⟨?_, q2.kept X Y hg3 (nm hm2 q2)⟩
    rw [hg]
    rcases hE.row with e | e
    · rw [e]
      exact fun e2 => hne g hg e2.symm
    · intro e2
      have := e g e2.symm
      omega
  refine ⟨w3, hrun2, ⟨ge, es', clock', _, hm3, M', ?_, ?_, ?_⟩, ?_⟩
  · intro a b hab
    unfold upd
    by_cases hq : a = sqv (X k) ∧ b = sqv (Y k)
    · obtain ⟨rfl, rfl⟩ := hq
      rw [hgk] at hab
      simp at hab
    · rw [if_neg hq]
      exact h1 a b (by rw [← hgo a b hq]; exact hab)
  · intro a b hab
    unfold upd
    by_cases hq : a = sqv (X k) ∧ b = sqv (Y k)
    · obtain ⟨rfl, rfl⟩ := hq
      rw [if_pos ⟨rfl, rfl⟩, hgk]
      exact ⟨v1, rfl, hr1.kept X Y hg3 (nm hm2 hr1)⟩
    · rw [if_neg hq]
      rw [hgo a b hq] at hab ⊢
      obtain ⟨v, e, hr⟩ := h2 a b hab
      exact ⟨v, e, (other a b v hq e hr).2⟩
  · intro a b a' b' v v' hv hv' hne
    have each : ∀ a b v, ¬ (a = sqv (X k) ∧ b = sqv (Y k)) → f a b = some v → v.ownBlock ≠ v1.ownBlock := by
      intro a b v hab hf
      have hnn : grp X Y k a b ≠ [] := fun e => by rw [h1 a b e] at hf; cases hf
      obtain ⟨v2, e, hr⟩ := h2 a b hnn
      rw [hf] at e
      injection e with e
      subst e
      exact (other a b v hab hf hr).1
    unfold upd at hv hv'
    by_cases hq : a = sqv (X k) ∧ b = sqv (Y k)
    · rw [if_pos hq] at hv
      injection hv with hv
      subst hv
      have hq' : ¬ (a' = sqv (X k) ∧ b' = sqv (Y k)) := fun e => hne ⟨hq.1.trans e.1.symm, hq.2.trans e.2.symm⟩
      rw [if_neg hq'] at hv'
      exact fun e => each a' b' v' hq' hv' e.symm
    · rw [if_neg hq] at hv
      by_cases hq' : a' = sqv (X k) ∧ b' = sqv (Y k)
      · rw [if_pos hq'] at hv'
        injection hv' with hv'
        subst hv'
        exact each a b v hq hv
      · rw [if_neg hq'] at hv'
        exact h3 a b a' b' v v' hv hv' hne
  · have g1 : RowKit.Below base w w1 := (Below.refl base w).grown hg1 (by omega) (fun j e => by injection e with e; omega)
    have g2 : RowKit.Below base w w2 := g1.grown hE.grown (by omega) (fun j e => ((r0.kept X Y hg1 (nm hm r0)).lt X Y j e).1)
    exact g2.grown hg3 (by have := hE.grown.size; omega) (fun j e => by injection e with e; omega)
end
end Go.Proofs.Ytkghjaodnkjmoaa
