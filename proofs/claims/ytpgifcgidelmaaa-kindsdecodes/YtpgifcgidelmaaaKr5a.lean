/- The reference's Decode: the region that appends a kind. -/
import Derived.Test.YtpgifcgidelmaaaKr4
import Derived.Test.YtpgifcgidelmaaaKr4b
import Derived.Test.YtpgifcgidelmaaaCut11
import Derived.Deep.RegionWith
namespace Go.Proofs.Ytpgifcgidelmaaa
open Go.RowKit
set_option linter.unusedVariables false
set_option linter.unusedSimpArgs false

theorem blk_at {W : World} {g : Nat} {t : TypeId} {cs : Array Value} (h : W.heap[g]? = some (.cells cs t (0, 0))) (i : Nat) {x : Value} (e : cs[i]? = some x) : W.cell? ⟨g, i, none⟩ = some x := by
  rw [cell_of_row W g i cs t (0, 0) h, e]
theorem frozen_blk {W : World} {g : Nat} {t : TypeId} {cs : Array Value} (h : W.heap[g]? = some (.cells cs t (0, 0))) (i : Nat) : W.frozen? ⟨g, i, none⟩ = false := by simp [World.frozen?, h]
theorem set8_blk {W : World} {g : Nat} (h : W.heap[g]? = some (.cells #[.int .i64 0, .int .i64 0, .int .i64 0, .int .i64 0, .int .i64 0, .int .i64 0, .int .i64 0, .int .i64 0] 63 (0, 0))) (T : Nat → Int) :
    ((((((((W.setCell ⟨g, 0, none⟩ (.int .i64 (T 0))).setCell ⟨g, 1, none⟩ (.int .i64 (T 1))).setCell ⟨g, 2, none⟩ (.int .i64 (T 2))).setCell ⟨g, 3, none⟩ (.int .i64 (T 3))).setCell ⟨g, 4, none⟩ (.int .i64 (T 4))).setCell ⟨g, 5, none⟩ (.int .i64 (T 5))).setCell ⟨g, 6, none⟩ (.int .i64 (T 6))).setCell ⟨g, 7, none⟩ (.int .i64 (T 7))).heap[g]? = some (.cells (arr8 T) 63 (0, 0)) := by
  have h := setCell_blk (i := 0) h (.int .i64 (T 0))
  have h := setCell_blk (i := 1) h (.int .i64 (T 1))
  have h := setCell_blk (i := 2) h (.int .i64 (T 2))
  have h := setCell_blk (i := 3) h (.int .i64 (T 3))
  have h := setCell_blk (i := 4) h (.int .i64 (T 4))
  have h := setCell_blk (i := 5) h (.int .i64 (T 5))
  have h := setCell_blk (i := 6) h (.int .i64 (T 6))
  have h := setCell_blk (i := 7) h (.int .i64 (T 7))
  simp only [List.setIfInBounds_toArray, List.set_cons_zero, List.set_cons_succ] at h
  exact h
theorem set8_below {B : Nat} {w W : World} {g : Nat} (h : Below B w W) (hg : B ≤ g) (T : Nat → Int) : Below B w ((((((((W.setCell ⟨g, 0, none⟩ (.int .i64 (T 0))).setCell ⟨g, 1, none⟩ (.int .i64 (T 1))).setCell ⟨g, 2, none⟩ (.int .i64 (T 2))).setCell ⟨g, 3, none⟩ (.int .i64 (T 3))).setCell ⟨g, 4, none⟩ (.int .i64 (T 4))).setCell ⟨g, 5, none⟩ (.int .i64 (T 5))).setCell ⟨g, 6, none⟩ (.int .i64 (T 6))).setCell ⟨g, 7, none⟩ (.int .i64 (T 7))) :=
  ((((((((h.setCell (p := ⟨g, 0, none⟩) hg _).setCell (p := ⟨g, 1, none⟩) hg _).setCell (p := ⟨g, 2, none⟩) hg _).setCell (p := ⟨g, 3, none⟩) hg _).setCell (p := ⟨g, 4, none⟩) hg _).setCell (p := ⟨g, 5, none⟩) hg _).setCell (p := ⟨g, 6, none⟩) hg _).setCell (p := ⟨g, 7, none⟩) hg _)
noncomputable def code18 : Code := ((Try.f16.body.bind (findRegion 18)).getD .skip)

set_option maxRecDepth 1000000 in
set_option maxHeartbeats 8000000 in
theorem region18 (Q0 : Exit → Act → World → Prop) (HQ : ∀ c t t' ds w, Q0 (.panic c) ⟨t, ds⟩ w → Q0 (.panic c) ⟨t', ds⟩ w) (w w6 : World) (g o N c : Nat) (p : Nat → Nat) (v1 : Value) (k Q tb Z d : Nat) (V : Int) (T : Nat → Int) (y0 y17 y18 y19 y20 y21 y22 y23 y24 y25 y26 : Nat)
    (X6 : Hid (Fr w (some ⟨g, o, none⟩) N p w6 v1 (.slice none 0 0) k 0 (dK p) (dU p) (dF p))) (T6 : Hid (w6.heap[tb]? = some (.cells (arr8 T) 63 (0, 0)))) (hQN : Q < N) (hk256 : k < 256)
    (A0 : Hid (w6.cell? ⟨g, o + Q, none⟩ = some (.int .u8 (y0 : Int)))) (u0 : IntKind.i64.wrap (y0 : Int) = (y0 : Int)) (A17 : Hid (w6.cell? ⟨g, Z, none⟩ = some (.int .u8 (y17 : Int)))) (u17 : IntKind.i64.wrap (y17 : Int) = (y17 : Int)) (A18 : Hid (w6.cell? ⟨g, Z + 1, none⟩ = some (.int .u8 (y18 : Int)))) (u18 : IntKind.i64.wrap (y18 : Int) = (y18 : Int)) (A19 : Hid (w6.cell? ⟨g, Z + 2, none⟩ = some (.int .u8 (y19 : Int)))) (u19 : IntKind.i64.wrap (y19 : Int) = (y19 : Int)) (A20 : Hid (w6.cell? ⟨g, Z + 3, none⟩ = some (.int .u8 (y20 : Int)))) (u20 : IntKind.i64.wrap (y20 : Int) = (y20 : Int)) (A21 : Hid (w6.cell? ⟨g, Z + 4, none⟩ = some (.int .u8 (y21 : Int)))) (u21 : IntKind.i64.wrap (y21 : Int) = (y21 : Int)) (A22 : Hid (w6.cell? ⟨g, Z + 5, none⟩ = some (.int .u8 (y22 : Int)))) (u22 : IntKind.i64.wrap (y22 : Int) = (y22 : Int)) (A23 : Hid (w6.cell? ⟨g, Z + 6, none⟩ = some (.int .u8 (y23 : Int)))) (u23 : IntKind.i64.wrap (y23 : Int) = (y23 : Int)) (A24 : Hid (w6.cell? ⟨g, Z + 7, none⟩ = some (.int .u8 (y24 : Int)))) (u24 : IntKind.i64.wrap (y24 : Int) = (y24 : Int)) (A25 : Hid (w6.cell? ⟨g, Z + 8, none⟩ = some (.int .u8 (y25 : Int)))) (u25 : IntKind.i64.wrap (y25 : Int) = (y25 : Int)) (A26 : Hid (w6.cell? ⟨g, Z + 9, none⟩ = some (.int .u8 (y26 : Int)))) (u26 : IntKind.i64.wrap (y26 : Int) = (y26 : Int))
    (HKC : Hid (#[.int .i64 (y0 : Int), .int .i64 (T 0), .int .i64 (V), .int .i64 (T 1), .int .i64 (y17 : Int), .int .i64 (y18 : Int), .int .i64 (y19 : Int), .int .i64 (y20 : Int), .int .i64 (T 2), .int .i64 (T 3), .int .i64 (T 4), .int .i64 (y21 : Int), .int .i64 (y22 : Int), .int .i64 (y23 : Int), .int .i64 (T 5), .int .i64 (T 6), .int .i64 (y24 : Int), .int .i64 (y25 : Int), .int .i64 (y26 : Int), .int .i64 (T 7)] = kcs (dK p k))) {x1 x2 x3 x4 x5 x6 x7 x9 x14 x15 x16 x17 x18 x19 x20 x21 x22 x23 x24 x25 x26 x27 x28 x29 x30 x31 x32 x33 x34 x35 x36 x37 x38 x39 x40 x41 x42 x43 x44 x45 x46 x47 x48 x49 x50 x51 x52 x53 x54 x55 x56 x57 x58 x59 x60 x61 x62 x63 x64 x65 x66 x67 x68 x69 x70 x71 x72 x73 x74 x75 x76 x77 x78 x79 x80 x81 x82 x83 x84 x85 x86 x87 x88 x89 x90 x91 x92 x93 x94 x95 x96 x97 x98 x99 x100 x101 x102 x103 x104 x105 x106 x107 x108 x109 x110 x111 x112 x113 x114 x115 x116 x117 x118 x119 x120 x121 x122 x123 x124 x125 x126 x127 x128 x129 x130 x131 x132 x133 x134 x135 x136 x137 x138 x139 x140 x141 x142 x143 x144 x145 x146 x147 x148 x149 x150 x151 x152 x153 x154 x155 x156 x157 x158 x159 x160 x161 x162 x163 x164 x165 x166 x167 x168 x169 x170 x171 x172 x173 x174 x175 x176 x177 x178 x179 x180 x181 x182 x183 x184 x185 x186 x187 x188 x189 x190 x191 x192 x193 x194 x195 x196 x197 x198 x199 x200 x201 x202 x203 x204 x205 x206 x207 x208 x209 x210 x211 x212 x213 x214 x215 x216 x217 x218 x219 x220 x221 x222 x223 x224 x225 x226 x227 x228 x229 x230 x231 x232 x233 x234 : Value}
    (hF : ∀ (z87 z88 z89 z90 z91 z92 z93 z94 z95 z96 z97 z98 z99 z100 z101 z102 z103 z104 z105 z106 z107 z108 z109 z110 z111 z112 z113 z114 z115 z116 z117 z118 z119 z120 z121 z122 z123 z124 z125 z126 z127 z128 z129 z130 z131 z132 z133 z134 z135 z136 z137 z138 z139 z140 z141 z142 z143 z144 z145 z146 z147 z148 z149 z150 z151 z152 z153 z154 v' : Value) (w9 : World), Fr w (some ⟨g, o, none⟩) N p w9 v' (.slice none 0 0) (k + 1) 0 (dK p) (dU p) (dF p) → Q0 .normal ⟨#[.slice (some ⟨g, o, none⟩) N c, x1, x2, x3, x4, x5, x6, x7, .pointer (some ⟨w.heap.size + 1, 0, none⟩), x9, .int .i64 (Q : Int), .pointer (some ⟨tb, 0, none⟩), .slice (some ⟨g, Z, none⟩) 10 d, .int .i64 V, x14, x15, x16, x17, x18, x19, x20, x21, x22, x23, x24, x25, x26, x27, x28, x29, x30, x31, x32, x33, x34, x35, x36, x37, x38, x39, x40, x41, x42, x43, x44, x45, x46, x47, x48, x49, x50, x51, x52, x53, x54, x55, x56, x57, x58, x59, x60, x61, x62, x63, x64, x65, x66, x67, x68, x69, x70, x71, x72, x73, x74, x75, x76, x77, x78, x79, x80, x81, x82, x83, x84, x85, x86, z87, z88, z89, z90, z91, z92, z93, z94, z95, z96, z97, z98, z99, z100, z101, z102, z103, z104, z105, z106, z107, z108, z109, z110, z111, z112, z113, z114, z115, z116, z117, z118, z119, z120, z121, z122, z123, z124, z125, z126, z127, z128, z129, z130, z131, z132, z133, z134, z135, z136, z137, z138, z139, z140, z141, z142, z143, z144, z145, z146, z147, z148, z149, z150, z151, z152, z153, z154, x155, x156, x157, x158, x159, x160, x161, x162, x163, x164, x165, x166, x167, x168, x169, x170, x171, x172, x173, x174, x175, x176, x177, x178, x179, x180, x181, x182, x183, x184, x185, x186, x187, x188, x189, x190, x191, x192, x193, x194, x195, x196, x197, x198, x199, x200, x201, x202, x203, x204, x205, x206, x207, x208, x209, x210, x211, x212, x213, x214, x215, x216, x217, x218, x219, x220, x221, x222, x223, x224, x225, x226, x227, x228, x229, x230, x231, x232, x233, x234], []⟩ w9) :
    Code.wp Try.prog code18 Q0 ⟨#[.slice (some ⟨g, o, none⟩) N c, x1, x2, x3, x4, x5, x6, x7, .pointer (some ⟨w.heap.size + 1, 0, none⟩), x9, .int .i64 (Q : Int), .pointer (some ⟨tb, 0, none⟩), .slice (some ⟨g, Z, none⟩) 10 d, .int .i64 V, x14, x15, x16, x17, x18, x19, x20, x21, x22, x23, x24, x25, x26, x27, x28, x29, x30, x31, x32, x33, x34, x35, x36, x37, x38, x39, x40, x41, x42, x43, x44, x45, x46, x47, x48, x49, x50, x51, x52, x53, x54, x55, x56, x57, x58, x59, x60, x61, x62, x63, x64, x65, x66, x67, x68, x69, x70, x71, x72, x73, x74, x75, x76, x77, x78, x79, x80, x81, x82, x83, x84, x85, x86, x87, x88, x89, x90, x91, x92, x93, x94, x95, x96, x97, x98, x99, x100, x101, x102, x103, x104, x105, x106, x107, x108, x109, x110, x111, x112, x113, x114, x115, x116, x117, x118, x119, x120, x121, x122, x123, x124, x125, x126, x127, x128, x129, x130, x131, x132, x133, x134, x135, x136, x137, x138, x139, x140, x141, x142, x143, x144, x145, x146, x147, x148, x149, x150, x151, x152, x153, x154, x155, x156, x157, x158, x159, x160, x161, x162, x163, x164, x165, x166, x167, x168, x169, x170, x171, x172, x173, x174, x175, x176, x177, x178, x179, x180, x181, x182, x183, x184, x185, x186, x187, x188, x189, x190, x191, x192, x193, x194, x195, x196, x197, x198, x199, x200, x201, x202, x203, x204, x205, x206, x207, x208, x209, x210, x211, x212, x213, x214, x215, x216, x217, x218, x219, x220, x221, x222, x223, x224, x225, x226, x227, x228, x229, x230, x231, x232, x233, x234], []⟩ w6 := by
  conv => arg 2; whnf
  have HF := Lib.hid hF
  have HQ1 := Lib.hid HQ
  clear hF HQ
  have X7 := Lib.hid (X6.out.keep (Below.refl _ _).drew)
  have A0' : Hid (w6.drew.cell? ⟨g, o + Q, none⟩ = some (.int .u8 (y0 : Int))) := A0.out
  have A17' : Hid (w6.drew.cell? ⟨g, Z, none⟩ = some (.int .u8 (y17 : Int))) := A17.out
  have A18' : Hid (w6.drew.cell? ⟨g, Z + 1, none⟩ = some (.int .u8 (y18 : Int))) := A18.out
  have A19' : Hid (w6.drew.cell? ⟨g, Z + 2, none⟩ = some (.int .u8 (y19 : Int))) := A19.out
  have A20' : Hid (w6.drew.cell? ⟨g, Z + 3, none⟩ = some (.int .u8 (y20 : Int))) := A20.out
  have A21' : Hid (w6.drew.cell? ⟨g, Z + 4, none⟩ = some (.int .u8 (y21 : Int))) := A21.out
  have A22' : Hid (w6.drew.cell? ⟨g, Z + 5, none⟩ = some (.int .u8 (y22 : Int))) := A22.out
  have A23' : Hid (w6.drew.cell? ⟨g, Z + 6, none⟩ = some (.int .u8 (y23 : Int))) := A23.out
  have A24' : Hid (w6.drew.cell? ⟨g, Z + 7, none⟩ = some (.int .u8 (y24 : Int))) := A24.out
  have A25' : Hid (w6.drew.cell? ⟨g, Z + 8, none⟩ = some (.int .u8 (y25 : Int))) := A25.out
  have A26' : Hid (w6.drew.cell? ⟨g, Z + 9, none⟩ = some (.int .u8 (y26 : Int))) := A26.out
  have T7 : Hid (w6.drew.heap[tb]? = some (.cells (arr8 T) 63 (0, 0))) := T6.out
  clear X6 T6 A0 A17 A18 A19 A20 A21 A22 A23 A24 A25 A26
  refine wp_regionT (m := 68) (R := fun _ => True) (B := fun w' : World => w'.cell? ⟨w.heap.size + 1, 0, none⟩ = some v1) (by kernel_rfl) ?_
  generalize w6.drew = w7 at *
  simp only [List.size_toArray, List.length_cons, List.length_nil, Nat.reduceAdd, Array.replicate_succ, Array.replicate_zero, List.push_toArray, List.nil_append, List.cons_append]
  refine wpAnyT_take (i := 0) (v := ?_) rfl (by kernel_rfl) (by kernel_rfl) (by kernel_rfl) (by kernel_rfl) (by kernel_rfl) (by kernel_rfl) (fun _ a _ h => HQ1.out _ _ a.tmps a.defers _ h) (Or.inl ⟨by rfl, ?_⟩) ⟨trivial, X7.out.c0⟩ ?_
  rotate_left
  · rintro w' ⟨-, hb0⟩
    go_simp
    with_reducible rfl
  simp only [Act.put, List.getElem_toArray, List.getElem_cons_zero, List.setIfInBounds_toArray, List.set_cons_zero, List.set_cons_succ]
  refine wpAnyT_take (i := 1) (v := ?_) rfl (by kernel_rfl) (by kernel_rfl) (by kernel_rfl) (by kernel_rfl) (by kernel_rfl) (by kernel_rfl) (fun _ a _ h => HQ1.out _ _ a.tmps a.defers _ h) (Or.inl ⟨by rfl, ?_⟩) ⟨trivial, X7.out.c0⟩ ?_
  rotate_left
  · rintro w' ⟨-, hb0⟩
    go_simp
    with_reducible rfl
  simp only [Act.put, List.getElem_toArray, List.getElem_cons_zero, List.getElem_cons_succ, List.setIfInBounds_toArray, List.set_cons_zero, List.set_cons_succ]
  have a0 := A0'.out
  have a17 := A17'.out
  have a18 := A18'.out
  have a19 := A19'.out
  have a20 := A20'.out
  have a21 := A21'.out
  have a22 := A22'.out
  have a23 := A23'.out
  have a24 := A24'.out
  have a25 := A25'.out
  have a26 := A26'.out
  have t0 := blk_at T7.out 0 (x := .int .i64 (T 0)) rfl
  have t1 := blk_at T7.out 1 (x := .int .i64 (T 1)) rfl
  have t2 := blk_at T7.out 2 (x := .int .i64 (T 2)) rfl
  have t3 := blk_at T7.out 3 (x := .int .i64 (T 3)) rfl
  have t4 := blk_at T7.out 4 (x := .int .i64 (T 4)) rfl
  have t5 := blk_at T7.out 5 (x := .int .i64 (T 5)) rfl
  have t6 := blk_at T7.out 6 (x := .int .i64 (T 6)) rfl
  have t7 := blk_at T7.out 7 (x := .int .i64 (T 7)) rfl
  clear A0' A17' A18' A19' A20' A21' A22' A23' A24' A25' A26'
  refine wpAnyT_headL 2 63 4 #[true, true, true, true, true, true, true, true, true, true, true, true, true, true, true, true, true, true, true, true, true, true, true, true, true, true, true, true, true, true, true, true, true, true, true, true, true, true, true, true, true, true, true, true, true, true, true, true, true, true, true, true, true, true, true, true, true, true, true, true, true, true, true, true, true, false, false, false, false] (by kernel_rfl) (by kernel_rfl) (by kernel_rfl) (by kernel_rfl) ⟨trivial, X7.out.c0⟩ ?_
  simp only [List.take_succ_cons, List.take_zero, List.drop_succ_cons, List.drop_zero]
  repeat still_step
  have hb := build_kind (y0 : Int) (T 0) (V) (T 1) (y17 : Int) (y18 : Int) (y19 : Int) (y20 : Int) (T 2) (T 3) (T 4) (y21 : Int) (y22 : Int) (y23 : Int) (T 5) (T 6) (y24 : Int) (y25 : Int) (y26 : Int) (T 7) w7
  refine wpStill_value (by rfl) (run_build rfl ?_ hb) ?_
  · kernel_rfl
  clear hb
  refine wpStill_nil ?_
  simp only [Act.put, List.getElem_toArray, List.getElem_cons_zero, List.getElem_cons_succ, List.setIfInBounds_toArray, List.set_cons_zero, List.set_cons_succ]
  refine wpAnyT_one (i := 65) (by kernel_rfl) rfl (fun K' hK => ?_)
  rw [if_pos (by rfl)]
  simp only [List.getElem_toArray, List.getElem_cons_zero, List.getElem_cons_succ, List.setIfInBounds_toArray, List.set_cons_zero, List.set_cons_succ] at hK ⊢
  have HK' := Lib.hid hK
  clear hK
  go_simp
  refine HK'.out _ _ trivial (fun _ => (X7.out.keep (below_box _)).c0) ?_
  clear HK'
  refine wpAnyT_one (i := 66) (by kernel_rfl) rfl (fun K' hK => ?_)
  rw [if_pos (by rfl)]
  simp only [List.getElem_toArray, List.getElem_cons_zero, List.getElem_cons_succ, List.setIfInBounds_toArray, List.set_cons_zero, List.set_cons_succ] at hK ⊢
  have HK' := Lib.hid hK
  clear hK
  rw [HKC.out]
  refine wp_append_kind (.tmp 88) (.tmp 152) rfl w.heap.size k (dK p) (dK p k) v1 w7 _ rfl rfl X7.out.rk rfl rfl (by omega) X7.out.below.size ?_
  intro v' w8 hr hg7
  obtain ⟨c7, f7, x7⟩ := X7.out.addK hr hg7
  obtain ⟨g7, cap7, rfl⟩ := ownsRow_succ hr
  have C7 := Lib.hid c7
  have F7 := Lib.hid f7
  have X8 := Lib.hid x7
  clear c7 f7 x7 hr hg7
  refine HK'.out _ _ trivial (fun _ => C7.out) ?_
  clear HK'
  refine wpAnyT_one (i := 67) (by kernel_rfl) rfl (fun K' hK => ?_)
  rw [if_pos (by rfl)]
  simp only [List.getElem_toArray, List.getElem_cons_zero, List.getElem_cons_succ, List.setIfInBounds_toArray, List.set_cons_zero, List.set_cons_succ] at hK ⊢
  have HK' := Lib.hid hK
  clear hK
  go_simp
  refine HK'.out _ _ trivial (fun _ => C7.out) ?_
  clear HK'
  refine wpAnyT_one (i := 68) (by kernel_rfl) rfl (fun K' hK => ?_)
  rw [if_pos (by rfl)]
  simp only [List.getElem_toArray, List.getElem_cons_zero, List.getElem_cons_succ, List.setIfInBounds_toArray, List.set_cons_zero, List.set_cons_succ] at hK ⊢
  have HK' := Lib.hid hK
  clear hK
  have c7 := C7.out
  have f7 := F7.out
  go_simp
  refine HK'.out _ _ trivial (fun hh => absurd hh (by decide)) ?_
  clear HK' c7 f7
  refine wpAnyT_done (by kernel_rfl) ?_ _
  exact HF.out _ _ _ _ _ _ _ _ _ _ _ _ _ _ _ _ _ _ _ _ _ _ _ _ _ _ _ _ _ _ _ _ _ _ _ _ _ _ _ _ _ _ _ _ _ _ _ _ _ _ _ _ _ _ _ _ _ _ _ _ _ _ _ _ _ _ _ _ _ _ X8.out
end Go.Proofs.Ytpgifcgidelmaaa
