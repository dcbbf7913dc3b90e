/- The reference's Int: the int64 of a number that fits. -/
import Derived.Test.YtckeplbmkjoiaaaDoorBig5
namespace Go.Proofs.YtckeplbmkjoiaaaDoor
open Go.RowKit
set_option linter.unusedVariables false

theorem val_drop_le (ds : List Nat) (k : Nat) : val (ds.drop k) ≤ val ds := by
  have h := val_split ds k
  have hp : 0 < 1000 ^ k := Nat.pow_pos (by omega)
  have : 1 * val (ds.drop k) ≤ 1000 ^ k * val (ds.drop k) := Nat.mul_le_mul_right _ hp
  omega

set_option maxHeartbeats 1000000 in
theorem int_any (v : Value) (z : Int) (w : World) (hv : BigIs w v z) (hz : Small z) (h0 : -9223372036854775808 ≤ z) (h1 : z ≤ 9223372036854775807) :
    Calls Tryd.prog 52 #[v] w (Ret (.int .i64 z) w) := by
  obtain ⟨A, c, ds, rfl, hat⟩ := hv
  have HA := Lib.hid hat
  have hl := hat.few hz
  have hvz : val ds ≤ 9223372036854775808 := by rw [hat.is]; omega
  have HX := Lib.hid (Box1.mk1 w (decide (z < 0)) (.slice A ds.length c) 59)
  clear hat hz
  generalize en : ds.length = n at hl HX ⊢
  have HN := Lib.hid en
  clear en
  have HNEG := Lib.hid (rfl : decide (z < 0) = decide (z < 0))
  generalize hneg : decide (z < 0) = neg at HX ⊢
  have HNG := Lib.hid hneg
  clear hneg HNEG
  have HROW : Hid (Row (w.alloc (Obj.cells #[Value.bool neg, Value.slice A n c] 59)) A ds) := HA.out.row.keep ((Below.refl _ _).alloc (Nat.le_refl _) _)
  go_enter Tryd.func52, Tryd.ntmps52
  go_wp2
  generalize w.alloc (Obj.cells #[Value.bool neg, Value.slice A n c] 59) = W at HX HROW ⊢
  obtain ⟨c0, c1, hbw⟩ := HX.out
  have HBW := Lib.hid hbw
  clear hbw
  go_loop [3, 4] (fun t i => ∃ (k : Nat) (V : Int), k ≤ n ∧ i = .int .i64 ((k : Int) - 1) ∧ t = .int .i64 V ∧ Hid (V = -(val (ds.drop k) : Int))) (fun _ i => (intOf i + 1).toNat)
  case atStart =>
    refine ⟨n, 0, Nat.le_refl _, by go_num, rfl, ?_⟩
    show (0 : Int) = _
    rw [List.drop_eq_nil_of_le (by rw [HN.out]; exact Nat.le_refl _)]
    rfl
  case round =>
    obtain ⟨k, V, hk, rfl, rfl, HV⟩ := hrel
    have hv0 := val_drop_le ds k
    have hv1 : -9223372036854775808 ≤ V := by rw [HV.out]; omega
    have hv2 : V ≤ 0 := by rw [HV.out]; omega
    rcases k with _ | k
    · have e0 : (((0 : Nat) : Int) - 1) = -1 := by omega
      rw [e0]
      clear e0
      have HE : Hid (V = -(z.natAbs : Int)) := by show V = _; rw [HV.out, List.drop_zero, HA.out.is]
      clear hv0
      cases neg
      · have hz : ¬ z < 0 := by simpa using HNG.out
        have hv3 : -9223372036854775807 ≤ V := by rw [HE.out]; omega
        have HZ : Hid (-V = z) := by show -V = z; rw [HE.out]; omega
        clear hz
        go_wp2
        go_ret
        exact Ret.mk (congrArg (Value.int .i64) HZ.out) HBW.out
      · have hz : z < 0 := by simpa using HNG.out
        have HZ : Hid (V = z) := by show V = z; rw [HE.out]; omega
        clear hz
        go_wp2
        go_ret
        exact Ret.mk (congrArg (Value.int .i64) HZ.out) HBW.out
    · have e1 : (((k + 1 : Nat) : Int) - 1) = (k : Int) := by omega
      rw [e1]
      clear e1
      obtain ⟨g, rfl, _, hcell⟩ := HROW.out (by rw [HN.out]; omega)
      have hck := hcell k (by rw [HN.out]; omega)
      clear hcell
      have hd := val_drop ds k
      have hd2 := val_drop_le ds k
      have HS : Hid (V * 1000 - (dn ds k : Int) = -(val (ds.drop k) : Int)) := by
        show _ = _
        rw [HV.out, hd]
        omega
      have hs1 : -9223372036854775808 ≤ V * 1000 := by rw [HV.out]; omega
      have hs2 : -9223372036854775808 ≤ V * 1000 - (dn ds k : Int) := by rw [HS.out]; omega
      clear hd hd2 hv0
      generalize dn ds k = x at *
      go_wp2
      go_round
      case rel => exact ⟨k, V * 1000 - (x : Int), by omega, rfl, rfl, HS⟩
      case measure => simp [intOf]

end Go.Proofs.YtckeplbmkjoiaaaDoor
