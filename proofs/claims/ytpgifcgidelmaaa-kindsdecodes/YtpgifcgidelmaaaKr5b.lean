/- The reference's Decode: the region that appends a weapon. -/
import Derived.Test.YtpgifcgidelmaaaKr4
import Derived.Test.YtpgifcgidelmaaaKr4b
import Derived.Test.YtpgifcgidelmaaaCut11
import Derived.Deep.RegionWith
namespace Go.Proofs.Ytpgifcgidelmaaa
open Go.RowKit
set_option linter.unusedVariables false
set_option linter.unusedSimpArgs false

noncomputable def code28 : Code := ((Try.f16.body.bind (findRegion 28)).getD .skip)

set_option maxRecDepth 1000000 in
set_option maxHeartbeats 8000000 in
theorem region28 (Q0 : Exit → Act → World → Prop) (HQ : ∀ c t t' ds w, Q0 (.panic c) ⟨t, ds⟩ w → Q0 (.panic c) ⟨t', ds⟩ w) (w w6 : World) (g o N c : Nat) (p : Nat → Nat) (v1 v2 : Value) (n k2 Q z P2 P3 P4 P5 y2 y3 y4 y5 : Nat) (V : Int)
    (X6 : Hid (Fr w (some ⟨g, o, none⟩) N p w6 v1 v2 n k2 (dK p) (dU p) (dF p))) (hk256 : k2 < 256) (h2N : P2 < N) (h3N : P3 < N) (h4N : P4 < N) (h5N : P5 < N) (AR : Hid (∀ W, Below w.heap.size w W → W.cell? ⟨g, o + P2, none⟩ = some (.int .u8 (y2 : Int)) ∧ W.cell? ⟨g, o + P3, none⟩ = some (.int .u8 (y3 : Int)) ∧ W.cell? ⟨g, o + P4, none⟩ = some (.int .u8 (y4 : Int)) ∧ W.cell? ⟨g, o + P5, none⟩ = some (.int .u8 (y5 : Int)))) (C3 : Hid (Calls Try.prog 33 #[.slice (some ⟨g, o, none⟩) N c, .int .i64 (Q : Int), .int .i64 (2 : Int)] w6.drew (Ret (.int .u64 (z : Int)) w6.drew))) (HB5 : Hid (((y5 : Int) == 1) = (y5 == 1)))
    (i2 : (Q : Int) + 2 = (P2 : Int)) (wP2 : IntKind.i64.wrap (P2 : Int) = (P2 : Int)) (i3 : (Q : Int) + 3 = (P3 : Int)) (wP3 : IntKind.i64.wrap (P3 : Int) = (P3 : Int)) (i4 : (Q : Int) + 4 = (P4 : Int)) (wP4 : IntKind.i64.wrap (P4 : Int) = (P4 : Int)) (i5 : (Q : Int) + 5 = (P5 : Int)) (wP5 : IntKind.i64.wrap (P5 : Int) = (P5 : Int)) (u2 : IntKind.i64.wrap (y2 : Int) = (y2 : Int)) (u3 : IntKind.i64.wrap (y3 : Int) = (y3 : Int)) (u4 : IntKind.i64.wrap (y4 : Int) = (y4 : Int)) (uz : IntKind.i64.wrap (z : Int) = (z : Int))
    (HKC : Hid (#[.int .i64 (y2 : Int), .int .i64 (z : Int), .int .i64 (V), .int .i64 (y3 : Int), .int .i64 (y4 : Int), .bool (y5 == 1)] = wcs (dU p k2) (dF p k2))) {x1 x2 x3 x4 x5 x6 x7 x9 x10 x11 x12 x13 x14 x15 x18 x19 x20 x21 x22 x23 x24 x25 x26 x27 x28 x29 x30 x31 x32 x33 x34 x35 x36 x37 x38 x39 x40 x41 x42 x43 x44 x45 x46 x47 x48 x49 x50 x51 x52 x53 x54 x55 x56 x57 x58 x59 x60 x61 x62 x63 x64 x65 x66 x67 x68 x69 x70 x71 x72 x73 x74 x75 x76 x77 x78 x79 x80 x81 x82 x83 x84 x85 x86 x87 x88 x89 x90 x91 x92 x93 x94 x95 x96 x97 x98 x99 x100 x101 x102 x103 x104 x105 x106 x107 x108 x109 x110 x111 x112 x113 x114 x115 x116 x117 x118 x119 x120 x121 x122 x123 x124 x125 x126 x127 x128 x129 x130 x131 x132 x133 x134 x135 x136 x137 x138 x139 x140 x141 x142 x143 x144 x145 x146 x147 x148 x149 x150 x151 x152 x153 x154 x155 x156 x157 x158 x159 x160 x161 x162 x163 x164 x165 x166 x167 x168 x169 x170 x171 x172 x173 x174 x175 x176 x177 x178 x179 x180 x181 x182 x183 x184 x185 x186 x187 x188 x189 x190 x191 x192 x193 x194 x195 x196 x197 x198 x199 x200 x201 x202 x203 x204 x205 x206 x207 x208 x209 x210 x211 x212 x213 x214 x215 x216 x217 x218 x219 x220 x221 x222 x223 x224 x225 x226 x227 x228 x229 x230 x231 x232 x233 x234 : Value}
    (hF : ∀ (z189 z190 z191 z192 z193 z194 z195 z196 z197 z198 z199 z200 z201 z202 z203 z204 z205 z206 z207 z208 z209 z210 z211 z212 z213 z214 z215 z216 z217 z218 z219 z220 z221 z222 z223 v' : Value) (w9 : World), Fr w (some ⟨g, o, none⟩) N p w9 v1 v' n (k2 + 1) (dK p) (dU p) (dF p) → Q0 .normal ⟨#[.slice (some ⟨g, o, none⟩) N c, x1, x2, x3, x4, x5, x6, x7, .pointer (some ⟨w.heap.size + 1, 0, none⟩), x9, x10, x11, x12, x13, x14, x15, .int .i64 (Q : Int), .int .i64 V, x18, x19, x20, x21, x22, x23, x24, x25, x26, x27, x28, x29, x30, x31, x32, x33, x34, x35, x36, x37, x38, x39, x40, x41, x42, x43, x44, x45, x46, x47, x48, x49, x50, x51, x52, x53, x54, x55, x56, x57, x58, x59, x60, x61, x62, x63, x64, x65, x66, x67, x68, x69, x70, x71, x72, x73, x74, x75, x76, x77, x78, x79, x80, x81, x82, x83, x84, x85, x86, x87, x88, x89, x90, x91, x92, x93, x94, x95, x96, x97, x98, x99, x100, x101, x102, x103, x104, x105, x106, x107, x108, x109, x110, x111, x112, x113, x114, x115, x116, x117, x118, x119, x120, x121, x122, x123, x124, x125, x126, x127, x128, x129, x130, x131, x132, x133, x134, x135, x136, x137, x138, x139, x140, x141, x142, x143, x144, x145, x146, x147, x148, x149, x150, x151, x152, x153, x154, x155, x156, x157, x158, x159, x160, x161, x162, x163, x164, x165, x166, x167, x168, x169, x170, x171, x172, x173, x174, x175, x176, x177, x178, x179, x180, x181, x182, x183, x184, x185, x186, x187, x188, z189, z190, z191, z192, z193, z194, z195, z196, z197, z198, z199, z200, z201, z202, z203, z204, z205, z206, z207, z208, z209, z210, z211, z212, z213, z214, z215, z216, z217, z218, z219, z220, z221, z222, z223, x224, x225, x226, x227, x228, x229, x230, x231, x232, x233, x234], []⟩ w9) :
    Code.wp Try.prog code28 Q0 ⟨#[.slice (some ⟨g, o, none⟩) N c, x1, x2, x3, x4, x5, x6, x7, .pointer (some ⟨w.heap.size + 1, 0, none⟩), x9, x10, x11, x12, x13, x14, x15, .int .i64 (Q : Int), .int .i64 V, x18, x19, x20, x21, x22, x23, x24, x25, x26, x27, x28, x29, x30, x31, x32, x33, x34, x35, x36, x37, x38, x39, x40, x41, x42, x43, x44, x45, x46, x47, x48, x49, x50, x51, x52, x53, x54, x55, x56, x57, x58, x59, x60, x61, x62, x63, x64, x65, x66, x67, x68, x69, x70, x71, x72, x73, x74, x75, x76, x77, x78, x79, x80, x81, x82, x83, x84, x85, x86, x87, x88, x89, x90, x91, x92, x93, x94, x95, x96, x97, x98, x99, x100, x101, x102, x103, x104, x105, x106, x107, x108, x109, x110, x111, x112, x113, x114, x115, x116, x117, x118, x119, x120, x121, x122, x123, x124, x125, x126, x127, x128, x129, x130, x131, x132, x133, x134, x135, x136, x137, x138, x139, x140, x141, x142, x143, x144, x145, x146, x147, x148, x149, x150, x151, x152, x153, x154, x155, x156, x157, x158, x159, x160, x161, x162, x163, x164, x165, x166, x167, x168, x169, x170, x171, x172, x173, x174, x175, x176, x177, x178, x179, x180, x181, x182, x183, x184, x185, x186, x187, x188, x189, x190, x191, x192, x193, x194, x195, x196, x197, x198, x199, x200, x201, x202, x203, x204, x205, x206, x207, x208, x209, x210, x211, x212, x213, x214, x215, x216, x217, x218, x219, x220, x221, x222, x223, x224, x225, x226, x227, x228, x229, x230, x231, x232, x233, x234], []⟩ w6 := by
  conv => arg 2; whnf
  have HF := Lib.hid hF
  have HQ1 := Lib.hid HQ
  clear hF HQ
  have X7 := Lib.hid (X6.out.keep (Below.refl _ _).drew)
  have HR7 := Lib.hid (AR.out _ X7.out.below)
  clear X6
  refine wp_regionT (m := 35) (R := fun W : World => W.cell? ⟨g, o + P2, none⟩ = some (.int .u8 (y2 : Int)) ∧ W.cell? ⟨g, o + P3, none⟩ = some (.int .u8 (y3 : Int)) ∧ W.cell? ⟨g, o + P4, none⟩ = some (.int .u8 (y4 : Int)) ∧ W.cell? ⟨g, o + P5, none⟩ = some (.int .u8 (y5 : Int))) (B := fun w' : World => w'.cell? ⟨w.heap.size + 1, 1, none⟩ = some v2) (by kernel_rfl) ?_
  generalize w6.drew = w7 at *
  simp only [List.size_toArray, List.length_cons, List.length_nil, Nat.reduceAdd, Array.replicate_succ, Array.replicate_zero, List.push_toArray, List.nil_append, List.cons_append]
  refine wpAnyT_take (i := 0) (v := ?_) rfl (by kernel_rfl) (by kernel_rfl) (by kernel_rfl) (by kernel_rfl) (by kernel_rfl) (by kernel_rfl) (fun _ a _ h => HQ1.out _ _ a.tmps a.defers _ h) (Or.inl ⟨by rfl, ?_⟩) ⟨HR7.out, X7.out.c1⟩ ?_
  rotate_left
  · rintro w' ⟨-, hb0⟩
    go_simp
    with_reducible rfl
  simp only [Act.put, List.getElem_toArray, List.getElem_cons_zero, List.getElem_cons_succ, List.setIfInBounds_toArray, List.set_cons_zero, List.set_cons_succ]
  refine wpAnyT_take (i := 1) (v := ?_) rfl (by kernel_rfl) (by kernel_rfl) (by kernel_rfl) (by kernel_rfl) (by kernel_rfl) (by kernel_rfl) (fun _ a _ h => HQ1.out _ _ a.tmps a.defers _ h) (Or.inl ⟨by rfl, ?_⟩) ⟨HR7.out, X7.out.c1⟩ ?_
  rotate_left
  · rintro w' ⟨-, hb0⟩
    go_simp
    with_reducible rfl
  simp only [Act.put, List.getElem_toArray, List.getElem_cons_zero, List.getElem_cons_succ, List.setIfInBounds_toArray, List.set_cons_zero, List.set_cons_succ]
  refine wpAnyT_takeR (i := 2) (v := ?_) rfl (by kernel_rfl) (by kernel_rfl) (by kernel_rfl) (by kernel_rfl) (by kernel_rfl) (fun _ a _ h => HQ1.out _ _ a.tmps a.defers _ h) (Or.inl ⟨by rfl, ?_⟩) HR7.out X7.out.c1 ?_
  rotate_left
  · rintro w' ⟨h2, h3, h4, h5⟩
    go_simp
    with_reducible rfl
  simp only [Act.put, List.getElem_toArray, List.getElem_cons_zero, List.getElem_cons_succ, List.setIfInBounds_toArray, List.set_cons_zero, List.set_cons_succ]
  refine wpAnyT_takeR (i := 3) (v := ?_) rfl (by kernel_rfl) (by kernel_rfl) (by kernel_rfl) (by kernel_rfl) (by kernel_rfl) (fun _ a _ h => HQ1.out _ _ a.tmps a.defers _ h) (Or.inl ⟨by rfl, ?_⟩) HR7.out X7.out.c1 ?_
  rotate_left
  · rintro w' ⟨h2, h3, h4, h5⟩
    go_simp
    with_reducible rfl
  simp only [Act.put, List.getElem_toArray, List.getElem_cons_zero, List.getElem_cons_succ, List.setIfInBounds_toArray, List.set_cons_zero, List.set_cons_succ]
  refine wpAnyT_takeR (i := 6) (v := ?_) rfl (by kernel_rfl) (by kernel_rfl) (by kernel_rfl) (by kernel_rfl) (by kernel_rfl) (fun _ a _ h => HQ1.out _ _ a.tmps a.defers _ h) (Or.inl ⟨by rfl, ?_⟩) HR7.out X7.out.c1 ?_
  rotate_left
  · rintro w' ⟨h2, h3, h4, h5⟩
    go_simp
    with_reducible rfl
  simp only [Act.put, List.getElem_toArray, List.getElem_cons_zero, List.getElem_cons_succ, List.setIfInBounds_toArray, List.set_cons_zero, List.set_cons_succ]
  refine wpAnyT_takeR (i := 7) (v := ?_) rfl (by kernel_rfl) (by kernel_rfl) (by kernel_rfl) (by kernel_rfl) (by kernel_rfl) (fun _ a _ h => HQ1.out _ _ a.tmps a.defers _ h) (Or.inl ⟨by rfl, ?_⟩) HR7.out X7.out.c1 ?_
  rotate_left
  · rintro w' ⟨h2, h3, h4, h5⟩
    go_simp
    with_reducible rfl
  simp only [Act.put, List.getElem_toArray, List.getElem_cons_zero, List.getElem_cons_succ, List.setIfInBounds_toArray, List.set_cons_zero, List.set_cons_succ]
  refine wpAnyT_takeR (i := 8) (v := ?_) rfl (by kernel_rfl) (by kernel_rfl) (by kernel_rfl) (by kernel_rfl) (by kernel_rfl) (fun _ a _ h => HQ1.out _ _ a.tmps a.defers _ h) (Or.inl ⟨by rfl, ?_⟩) HR7.out X7.out.c1 ?_
  rotate_left
  · rintro w' ⟨h2, h3, h4, h5⟩
    go_simp
    with_reducible rfl
  simp only [Act.put, List.getElem_toArray, List.getElem_cons_zero, List.getElem_cons_succ, List.setIfInBounds_toArray, List.set_cons_zero, List.set_cons_succ]
  refine wpAnyT_takeR (i := 9) (v := ?_) rfl (by kernel_rfl) (by kernel_rfl) (by kernel_rfl) (by kernel_rfl) (by kernel_rfl) (fun _ a _ h => HQ1.out _ _ a.tmps a.defers _ h) (Or.inl ⟨by rfl, ?_⟩) HR7.out X7.out.c1 ?_
  rotate_left
  · rintro w' ⟨h2, h3, h4, h5⟩
    go_simp
    with_reducible rfl
  simp only [Act.put, List.getElem_toArray, List.getElem_cons_zero, List.getElem_cons_succ, List.setIfInBounds_toArray, List.set_cons_zero, List.set_cons_succ]
  refine wpAnyT_takeR (i := 10) (v := ?_) rfl (by kernel_rfl) (by kernel_rfl) (by kernel_rfl) (by kernel_rfl) (by kernel_rfl) (fun _ a _ h => HQ1.out _ _ a.tmps a.defers _ h) (Or.inl ⟨by rfl, ?_⟩) HR7.out X7.out.c1 ?_
  rotate_left
  · rintro w' ⟨h2, h3, h4, h5⟩
    go_simp
    with_reducible rfl
  simp only [Act.put, List.getElem_toArray, List.getElem_cons_zero, List.getElem_cons_succ, List.setIfInBounds_toArray, List.set_cons_zero, List.set_cons_succ]
  refine wpAnyT_takeR (i := 11) (v := ?_) rfl (by kernel_rfl) (by kernel_rfl) (by kernel_rfl) (by kernel_rfl) (by kernel_rfl) (fun _ a _ h => HQ1.out _ _ a.tmps a.defers _ h) (Or.inl ⟨by rfl, ?_⟩) HR7.out X7.out.c1 ?_
  rotate_left
  · rintro w' ⟨h2, h3, h4, h5⟩
    go_simp
    with_reducible rfl
  simp only [Act.put, List.getElem_toArray, List.getElem_cons_zero, List.getElem_cons_succ, List.setIfInBounds_toArray, List.set_cons_zero, List.set_cons_succ]
  refine wpAnyT_takeR (i := 12) (v := ?_) rfl (by kernel_rfl) (by kernel_rfl) (by kernel_rfl) (by kernel_rfl) (by kernel_rfl) (fun _ a _ h => HQ1.out _ _ a.tmps a.defers _ h) (Or.inl ⟨by rfl, ?_⟩) HR7.out X7.out.c1 ?_
  rotate_left
  · rintro w' ⟨h2, h3, h4, h5⟩
    go_simp
    with_reducible rfl
  simp only [Act.put, List.getElem_toArray, List.getElem_cons_zero, List.getElem_cons_succ, List.setIfInBounds_toArray, List.set_cons_zero, List.set_cons_succ]
  refine wpAnyT_takeR (i := 13) (v := ?_) rfl (by kernel_rfl) (by kernel_rfl) (by kernel_rfl) (by kernel_rfl) (by kernel_rfl) (fun _ a _ h => HQ1.out _ _ a.tmps a.defers _ h) (Or.inl ⟨by rfl, ?_⟩) HR7.out X7.out.c1 ?_
  rotate_left
  · rintro w' ⟨h2, h3, h4, h5⟩
    go_simp
    with_reducible rfl
  simp only [Act.put, List.getElem_toArray, List.getElem_cons_zero, List.getElem_cons_succ, List.setIfInBounds_toArray, List.set_cons_zero, List.set_cons_succ]
  refine wpAnyT_takeR (i := 14) (v := ?_) rfl (by kernel_rfl) (by kernel_rfl) (by kernel_rfl) (by kernel_rfl) (by kernel_rfl) (fun _ a _ h => HQ1.out _ _ a.tmps a.defers _ h) (Or.inl ⟨by rfl, ?_⟩) HR7.out X7.out.c1 ?_
  rotate_left
  · rintro w' ⟨h2, h3, h4, h5⟩
    go_simp
    with_reducible rfl
  simp only [Act.put, List.getElem_toArray, List.getElem_cons_zero, List.getElem_cons_succ, List.setIfInBounds_toArray, List.set_cons_zero, List.set_cons_succ]
  refine wpAnyT_takeR (i := 15) (v := ?_) rfl (by kernel_rfl) (by kernel_rfl) (by kernel_rfl) (by kernel_rfl) (by kernel_rfl) (fun _ a _ h => HQ1.out _ _ a.tmps a.defers _ h) (Or.inl ⟨by rfl, ?_⟩) HR7.out X7.out.c1 ?_
  rotate_left
  · rintro w' ⟨h2, h3, h4, h5⟩
    go_simp
    with_reducible rfl
  simp only [Act.put, List.getElem_toArray, List.getElem_cons_zero, List.getElem_cons_succ, List.setIfInBounds_toArray, List.set_cons_zero, List.set_cons_succ]
  refine wpAnyT_takeR (i := 16) (v := ?_) rfl (by kernel_rfl) (by kernel_rfl) (by kernel_rfl) (by kernel_rfl) (by kernel_rfl) (fun _ a _ h => HQ1.out _ _ a.tmps a.defers _ h) (Or.inl ⟨by rfl, ?_⟩) HR7.out X7.out.c1 ?_
  rotate_left
  · rintro w' ⟨h2, h3, h4, h5⟩
    go_simp
    with_reducible rfl
  simp only [Act.put, List.getElem_toArray, List.getElem_cons_zero, List.getElem_cons_succ, List.setIfInBounds_toArray, List.set_cons_zero, List.set_cons_succ]
  refine wpAnyT_takeR (i := 17) (v := ?_) rfl (by kernel_rfl) (by kernel_rfl) (by kernel_rfl) (by kernel_rfl) (by kernel_rfl) (fun _ a _ h => HQ1.out _ _ a.tmps a.defers _ h) (Or.inl ⟨by rfl, ?_⟩) HR7.out X7.out.c1 ?_
  rotate_left
  · rintro w' ⟨h2, h3, h4, h5⟩
    go_simp
    with_reducible rfl
  simp only [Act.put, List.getElem_toArray, List.getElem_cons_zero, List.getElem_cons_succ, List.setIfInBounds_toArray, List.set_cons_zero, List.set_cons_succ]
  refine wpAnyT_takeR (i := 18) (v := ?_) rfl (by kernel_rfl) (by kernel_rfl) (by kernel_rfl) (by kernel_rfl) (by kernel_rfl) (fun _ a _ h => HQ1.out _ _ a.tmps a.defers _ h) (Or.inl ⟨by rfl, ?_⟩) HR7.out X7.out.c1 ?_
  rotate_left
  · rintro w' ⟨h2, h3, h4, h5⟩
    go_simp
    with_reducible rfl
  simp only [Act.put, List.getElem_toArray, List.getElem_cons_zero, List.getElem_cons_succ, List.setIfInBounds_toArray, List.set_cons_zero, List.set_cons_succ]
  refine wpAnyT_takeR (i := 19) (v := ?_) rfl (by kernel_rfl) (by kernel_rfl) (by kernel_rfl) (by kernel_rfl) (by kernel_rfl) (fun _ a _ h => HQ1.out _ _ a.tmps a.defers _ h) (Or.inl ⟨by rfl, ?_⟩) HR7.out X7.out.c1 ?_
  rotate_left
  · rintro w' ⟨h2, h3, h4, h5⟩
    go_simp
    with_reducible rfl
  simp only [Act.put, List.getElem_toArray, List.getElem_cons_zero, List.getElem_cons_succ, List.setIfInBounds_toArray, List.set_cons_zero, List.set_cons_succ]
  refine wpAnyT_takeR (i := 20) (v := ?_) rfl (by kernel_rfl) (by kernel_rfl) (by kernel_rfl) (by kernel_rfl) (by kernel_rfl) (fun _ a _ h => HQ1.out _ _ a.tmps a.defers _ h) (Or.inl ⟨by rfl, ?_⟩) HR7.out X7.out.c1 ?_
  rotate_left
  · rintro w' ⟨h2, h3, h4, h5⟩
    go_simp
    with_reducible rfl
  simp only [Act.put, List.getElem_toArray, List.getElem_cons_zero, List.getElem_cons_succ, List.setIfInBounds_toArray, List.set_cons_zero, List.set_cons_succ]
  refine wpAnyT_takeR (i := 21) (v := ?_) rfl (by kernel_rfl) (by kernel_rfl) (by kernel_rfl) (by kernel_rfl) (by kernel_rfl) (fun _ a _ h => HQ1.out _ _ a.tmps a.defers _ h) (Or.inl ⟨by rfl, ?_⟩) HR7.out X7.out.c1 ?_
  rotate_left
  · rintro w' ⟨h2, h3, h4, h5⟩
    go_simp
    with_reducible rfl
  simp only [Act.put, List.getElem_toArray, List.getElem_cons_zero, List.getElem_cons_succ, List.setIfInBounds_toArray, List.set_cons_zero, List.set_cons_succ]
  refine wpAnyT_takeR (i := 22) (v := ?_) rfl (by kernel_rfl) (by kernel_rfl) (by kernel_rfl) (by kernel_rfl) (by kernel_rfl) (fun _ a _ h => HQ1.out _ _ a.tmps a.defers _ h) (Or.inl ⟨by rfl, ?_⟩) HR7.out X7.out.c1 ?_
  rotate_left
  · rintro w' ⟨h2, h3, h4, h5⟩
    go_simp
    with_reducible rfl
  simp only [Act.put, List.getElem_toArray, List.getElem_cons_zero, List.getElem_cons_succ, List.setIfInBounds_toArray, List.set_cons_zero, List.set_cons_succ]
  refine wpAnyT_takeR (i := 23) (v := ?_) rfl (by kernel_rfl) (by kernel_rfl) (by kernel_rfl) (by kernel_rfl) (by kernel_rfl) (fun _ a _ h => HQ1.out _ _ a.tmps a.defers _ h) (Or.inl ⟨by rfl, ?_⟩) HR7.out X7.out.c1 ?_
  rotate_left
  · rintro w' ⟨h2, h3, h4, h5⟩
    go_simp
    with_reducible rfl
  simp only [Act.put, List.getElem_toArray, List.getElem_cons_zero, List.getElem_cons_succ, List.setIfInBounds_toArray, List.set_cons_zero, List.set_cons_succ]
  refine wpAnyT_takeR (i := 24) (v := ?_) rfl (by kernel_rfl) (by kernel_rfl) (by kernel_rfl) (by kernel_rfl) (by kernel_rfl) (fun _ a _ h => HQ1.out _ _ a.tmps a.defers _ h) (Or.inl ⟨by rfl, ?_⟩) HR7.out X7.out.c1 ?_
  rotate_left
  · rintro w' ⟨h2, h3, h4, h5⟩
    go_simp
    with_reducible rfl
  simp only [Act.put, List.getElem_toArray, List.getElem_cons_zero, List.getElem_cons_succ, List.setIfInBounds_toArray, List.set_cons_zero, List.set_cons_succ]
  refine wpAnyT_takeR (i := 25) (v := ?_) rfl (by kernel_rfl) (by kernel_rfl) (by kernel_rfl) (by kernel_rfl) (by kernel_rfl) (fun _ a _ h => HQ1.out _ _ a.tmps a.defers _ h) (Or.inl ⟨by rfl, ?_⟩) HR7.out X7.out.c1 ?_
  rotate_left
  · rintro w' ⟨h2, h3, h4, h5⟩
    go_simp
    with_reducible rfl
  simp only [Act.put, List.getElem_toArray, List.getElem_cons_zero, List.getElem_cons_succ, List.setIfInBounds_toArray, List.set_cons_zero, List.set_cons_succ]
  refine wpAnyT_takeR (i := 26) (v := ?_) rfl (by kernel_rfl) (by kernel_rfl) (by kernel_rfl) (by kernel_rfl) (by kernel_rfl) (fun _ a _ h => HQ1.out _ _ a.tmps a.defers _ h) (Or.inl ⟨by rfl, ?_⟩) HR7.out X7.out.c1 ?_
  rotate_left
  · rintro w' ⟨h2, h3, h4, h5⟩
    go_simp
    with_reducible rfl
  simp only [Act.put, List.getElem_toArray, List.getElem_cons_zero, List.getElem_cons_succ, List.setIfInBounds_toArray, List.set_cons_zero, List.set_cons_succ]
  refine wpAnyT_takeR (i := 27) (v := ?_) rfl (by kernel_rfl) (by kernel_rfl) (by kernel_rfl) (by kernel_rfl) (by kernel_rfl) (fun _ a _ h => HQ1.out _ _ a.tmps a.defers _ h) (Or.inl ⟨by rfl, ?_⟩) HR7.out X7.out.c1 ?_
  rotate_left
  · rintro w' ⟨h2, h3, h4, h5⟩
    go_simp
    with_reducible rfl
  simp only [Act.put, List.getElem_toArray, List.getElem_cons_zero, List.getElem_cons_succ, List.setIfInBounds_toArray, List.set_cons_zero, List.set_cons_succ]
  refine wpAnyT_takeR (i := 28) (v := ?_) rfl (by kernel_rfl) (by kernel_rfl) (by kernel_rfl) (by kernel_rfl) (by kernel_rfl) (fun _ a _ h => HQ1.out _ _ a.tmps a.defers _ h) (Or.inl ⟨by rfl, ?_⟩) HR7.out X7.out.c1 ?_
  rotate_left
  · rintro w' ⟨h2, h3, h4, h5⟩
    go_simp
    with_reducible rfl
  simp only [Act.put, List.getElem_toArray, List.getElem_cons_zero, List.getElem_cons_succ, List.setIfInBounds_toArray, List.set_cons_zero, List.set_cons_succ]
  refine wpAnyT_takeR (i := 29) (v := ?_) rfl (by kernel_rfl) (by kernel_rfl) (by kernel_rfl) (by kernel_rfl) (by kernel_rfl) (fun _ a _ h => HQ1.out _ _ a.tmps a.defers _ h) (Or.inl ⟨by rfl, ?_⟩) HR7.out X7.out.c1 ?_
  rotate_left
  · rintro w' ⟨h2, h3, h4, h5⟩
    go_simp
    with_reducible rfl
  simp only [Act.put, List.getElem_toArray, List.getElem_cons_zero, List.getElem_cons_succ, List.setIfInBounds_toArray, List.set_cons_zero, List.set_cons_succ]
  refine wpAnyT_takeR (i := 30) (v := ?_) rfl (by kernel_rfl) (by kernel_rfl) (by kernel_rfl) (by kernel_rfl) (by kernel_rfl) (fun _ a _ h => HQ1.out _ _ a.tmps a.defers _ h) (Or.inl ⟨by rfl, ?_⟩) HR7.out X7.out.c1 ?_
  rotate_left
  · rintro w' ⟨h2, h3, h4, h5⟩
    go_simp
    with_reducible rfl
  simp only [Act.put, List.getElem_toArray, List.getElem_cons_zero, List.getElem_cons_succ, List.setIfInBounds_toArray, List.set_cons_zero, List.set_cons_succ]
  refine wpAnyT_one (i := 4) (by kernel_rfl) rfl (fun K' hK => ?_)
  rw [if_pos (by rfl)]
  simp only [List.getElem_toArray, List.getElem_cons_zero, List.getElem_cons_succ, List.setIfInBounds_toArray, List.set_cons_zero, List.set_cons_succ] at hK ⊢
  have HK' := Lib.hid hK
  clear hK
  go_simp
  refine C3.out.mono ?_
  rintro e w8 ⟨rfl, b8⟩
  have X8 := Lib.hid (X7.out.keep b8)
  have HR8 := Lib.hid (AR.out _ X8.out.below)
  clear b8 C3 X7 HR7
  refine HK'.out _ _ HR8.out (fun _ => X8.out.c1) ?_
  clear HK'
  refine wpAnyT_takeR (i := 5) (v := ?_) rfl (by kernel_rfl) (by kernel_rfl) (by kernel_rfl) (by kernel_rfl) (by kernel_rfl) (fun _ a _ h => HQ1.out _ _ a.tmps a.defers _ h) (Or.inl ⟨by rfl, ?_⟩) HR8.out X8.out.c1 ?_
  rotate_left
  · rintro w' ⟨h2, h3, h4, h5⟩
    go_simp
    with_reducible rfl
  simp only [Act.put, List.getElem_toArray, List.getElem_cons_zero, List.getElem_cons_succ, List.setIfInBounds_toArray, List.set_cons_zero, List.set_cons_succ]
  refine wpAnyT_takeR (i := 31) (v := ?_) rfl (by kernel_rfl) (by kernel_rfl) (by kernel_rfl) (by kernel_rfl) (by kernel_rfl) (fun _ a _ h => HQ1.out _ _ a.tmps a.defers _ h) (Or.inl ⟨by rfl, ?_⟩) HR8.out X8.out.c1 ?_
  rotate_left
  · rintro w' ⟨h2, h3, h4, h5⟩
    go_simp
    with_reducible rfl
  simp only [Act.put, List.getElem_toArray, List.getElem_cons_zero, List.getElem_cons_succ, List.setIfInBounds_toArray, List.set_cons_zero, List.set_cons_succ]
  refine wpAnyT_one (i := 32) (by kernel_rfl) rfl (fun K' hK => ?_)
  rw [if_pos (by rfl)]
  simp only [List.getElem_toArray, List.getElem_cons_zero, List.getElem_cons_succ, List.setIfInBounds_toArray, List.set_cons_zero, List.set_cons_succ] at hK ⊢
  have HK' := Lib.hid hK
  clear hK
  go_simp
  refine HK'.out _ _ (AR.out _ (X8.out.below.alloc X8.out.below.size _)) (fun _ => (X8.out.keep (below_box _)).c1) ?_
  clear HK'
  refine wpAnyT_one (i := 33) (by kernel_rfl) rfl (fun K' hK => ?_)
  rw [if_pos (by rfl)]
  simp only [List.getElem_toArray, List.getElem_cons_zero, List.getElem_cons_succ, List.setIfInBounds_toArray, List.set_cons_zero, List.set_cons_succ] at hK ⊢
  have HK' := Lib.hid hK
  clear hK
  rw [HB5.out, HKC.out]
  refine wp_append_weapon (.tmp 190) (.tmp 221) rfl w.heap.size k2 (dU p) (dF p) (dU p k2) (dF p k2) v2 w8 _ rfl rfl rfl X8.out.rw rfl rfl (by omega) X8.out.below.size ?_
  intro v' w9 hr hg7
  obtain ⟨c7, f7, x7⟩ := X8.out.addW hr hg7
  obtain ⟨g7, cap7, rfl⟩ := ownsRow_succ hr
  have C7 := Lib.hid c7
  have F7 := Lib.hid f7
  have X9 := Lib.hid x7
  have HR9 := Lib.hid (AR.out w9 (by have := (X8.out.keep (below_box (.cells (wcs (dU p k2) (dF p k2)) 51))); exact this.below.grown hg7 this.below.size (fun b e => (World.ownsRow.lt X8.out.rw b e).1)))
  clear c7 f7 x7 hr hg7
  refine HK'.out _ _ HR9.out (fun _ => C7.out) ?_
  clear HK'
  refine wpAnyT_one (i := 34) (by kernel_rfl) rfl (fun K' hK => ?_)
  rw [if_pos (by rfl)]
  simp only [List.getElem_toArray, List.getElem_cons_zero, List.getElem_cons_succ, List.setIfInBounds_toArray, List.set_cons_zero, List.set_cons_succ] at hK ⊢
  have HK' := Lib.hid hK
  clear hK
  go_simp
  refine HK'.out _ _ HR9.out (fun _ => C7.out) ?_
  clear HK'
  refine wpAnyT_one (i := 35) (by kernel_rfl) rfl (fun K' hK => ?_)
  rw [if_pos (by rfl)]
  simp only [List.getElem_toArray, List.getElem_cons_zero, List.getElem_cons_succ, List.setIfInBounds_toArray, List.set_cons_zero, List.set_cons_succ] at hK ⊢
  have HK' := Lib.hid hK
  clear hK
  have c7 := C7.out
  have f7 := F7.out
  go_simp
  refine HK'.out _ _ (AR.out _ X9.out.below) (fun hh => absurd hh (by decide)) ?_
  clear HK' c7 f7
  refine wpAnyT_done (by kernel_rfl) ?_ _
  exact HF.out _ _ _ _ _ _ _ _ _ _ _ _ _ _ _ _ _ _ _ _ _ _ _ _ _ _ _ _ _ _ _ _ _ _ _ _ _ X9.out
end Go.Proofs.Ytpgifcgidelmaaa
