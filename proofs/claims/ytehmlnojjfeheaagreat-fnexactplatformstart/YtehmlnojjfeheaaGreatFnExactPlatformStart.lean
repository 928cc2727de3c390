/- For every office the law of PlatformStart answers true: the program's PlatformStart and its model tell the same platform, field by field, and the same verdict; nothing of the office is turned or kept; what is told owns its memory, behind another call too. No condition. -/
import Derived.Test.YtehmlnojjfeheaaGreatErrs
import Derived.ShutString
import Derived.Lib.SmallJoins
import Derived.Test.YtehmlnojjfeheaaGreatManyBFnExactPlatformStart
import Derived.Deep.Cut
namespace Go.Proofs.YtehmlnojjfeheaaGreat.fnExactPlatformStart
open Go.ChangeShapes Go.WideShapes Go.ChangeAt Go.RowKit Go.Joins
open Go.ChangeMaps (open_string shut_string)
set_option linter.unusedVariables false
set_option linter.unusedSimpArgs false

set_option maxRecDepth 100000 in
set_option maxHeartbeats 8000000 in
theorem walk (x0 : Of.Pl) (o0 : Of.Offc) (w : World) (w0 : Of.InA w x0 o0 ∧ Of.Lim o0)   :
    Calls Tryz.prog 3 #[Of.ofV x0 o0] w fun e w' => e = .returned (.bool true) ∧ Below w.heap.size w w' := by
  obtain ⟨I, hl⟩ := w0
  by_cases hb : 0 ≤ 1048576 - (Tn.bulk o0.ln : Int) - (o0.ta.length : Int) - (o0.ho.length : Int) - (Od.bulk o0.od : Int) - (o0.to.length : Int)
  · have hz := Of.small_of hb
    have hR := Of.ans_small hz
    have hM := Of.ans_sm hz
    have hd : decide (1048576 - (Tn.bulk o0.ln : Int) - (o0.ta.length : Int) - (o0.ho.length : Int) - (Od.bulk o0.od : Int) - (o0.to.length : Int) < 0) = false := decide_eq_false (by omega)
    have HB : Hid (0 ≤ 1048576 - (Tn.bulk o0.ln : Int) - (o0.ta.length : Int) - (o0.ho.length : Int) - (Od.bulk o0.od : Int) - (o0.to.length : Int)) := hb
    have HT : Hid (∀ W, Of.InA W x0 o0 → _) := fun W h => Of.toOffice_own x0 o0 W hz h
    have HS : Hid (∀ lo hi y W, Of.Oc lo hi W y o0 → _) := fun lo hi y W h => Of.specPlat_any lo hi y o0 W hl hz h
    have HI : Hid (∀ lo hi y W, Of.Oc lo hi W y o0 → _) := fun lo hi y W h => Of.implPlat_any (fun s W h => Of.clone_val s W h) lo hi y o0 W hl hz h
    have HMC : Hid (∀ lo hi y W, hi ≤ W.heap.size → Of.Oc lo hi W y o0 → _) := fun lo hi y W h1 h => Of.markOffC_val lo hi y o0 W h1 hz h
    have HEO : Hid (∀ y z W, Of.In W y o0 → Of.In W z o0 → _) := fun y z W h1 h2 => Of.eqOffice_same y z o0 W hz h1 h2
    have hBB : (Of.offB o0 != Of.offB o0) = false := by simp
    generalize Of.ansO o0 = R at *
    generalize Of.offB o0 = B at *
    have zb := Of.z_bd (z := 1) hM (by omega) (by omega)
    have zb2 := Of.z_bd (z := Of.z5 1 R) hM (by omega) (by omega)
    have HEQ : Hid (∀ (x y x' y' : Of.Pl) (W : World), Of.In W x R → Of.In W y R → Of.In W x' R → Of.In W y' R → _) := fun x y x' y' W h1 h2 h3 h4 => Dk.eqPlat_same x y x' y' R W hR h1 h2 h3 h4
    have HMP : Hid (∀ (m0 m1 m2 m3 m4 m5 t0 t1 t2 t3 t4 t5 : Nat) (x y : Of.Pl) (gf cf hf gf' cf' hf' : Nat → Nat) (W : World), m5 ≤ t0 → Of.Rw' W m0 m1 m2 m3 m4 m5 x R gf cf hf → Of.Rw' W t0 t1 t2 t3 t4 t5 y R gf' cf' hf' → _) := fun m0 m1 m2 m3 m4 m5 t0 t1 t2 t3 t4 t5 x y gf cf hf gf' cf' hf' W h1 h2 h3 => Of.markPlatG_val 1 (by omega) (by omega) m0 m1 m2 m3 m4 m5 t0 t1 t2 t3 t4 t5 x y R gf cf hf gf' cf' hf' ⟨#[]⟩ 0 W hM h1 h2 h3
    have HHP : Hid (∀ (m0 m1 m2 m3 m4 m5 t0 t1 t2 t3 t4 t5 : Nat) (x y : Of.Pl) (gf cf hf gf' cf' hf' : Nat → Nat) (W : World), (Of.Mw 1 W m0 m1 m2 m3 m4 m5 x R gf cf hf ∧ Of.Mw (Of.z5 1 R) W t0 t1 t2 t3 t4 t5 y R gf' cf' hf') → _) := fun m0 m1 m2 m3 m4 m5 t0 t1 t2 t3 t4 t5 x y gf cf hf gf' cf' hf' W h => Of.heldPlatG_val 1 (by omega) (by omega) m0 m1 m2 m3 m4 m5 t0 t1 t2 t3 t4 t5 x y R gf cf hf gf' cf' hf' ⟨#[]⟩ 0 W hM h.1 h.2
    have hdz : decide (Of.z5 (Of.z5 1 R) R < 0) = false := decide_eq_false (by omega)
    generalize Of.z5 (Of.z5 1 R) R = zz at *
    generalize Of.z5 1 R = zy at *
    clear hz hl hb hR hM zb zb2
    have m0 := Pk.heap_new w (Of.ofB x0 o0 28)
    have N := Pk.new_below w (Of.ofB x0 o0 28)
    go_enter Tryz.func3, Tryz.ntmps3
    go_wp2_with fail
    refine (Of.szOffice_yes x0 o0 _ (I.on N) HB.out).mono ?_
    generalize (w.alloc (Of.ofB x0 o0 28)) = v0 at *
    have hsw := Pk.lt_of m0
    rintro e v1 ⟨rfl, Lv1⟩
    have m1 := Pk.kept Lv1 (Pk.lt_of m0) m0
    clear m0
    have L2 := Pk.join_below N Lv1
    clear N
    have hs3 : v0.heap.size ≤ v1.heap.size := Lv1.size
    have c4 : v1.cell? ⟨w.heap.size, 0, none⟩ = some (.slice x0.a0 o0.ln.length x0.c0) := Pk.cell_at m1 0
    have c5 : v1.cell? ⟨w.heap.size, 1, none⟩ = some (.slice x0.a1 o0.ta.length x0.c1) := Pk.cell_at m1 1
    have c6 : v1.cell? ⟨w.heap.size, 2, none⟩ = some (.slice x0.a2 o0.ho.length x0.c2) := Pk.cell_at m1 2
    have c7 : v1.cell? ⟨w.heap.size, 3, none⟩ = some (.slice x0.a3 o0.od.length x0.c3) := Pk.cell_at m1 3
    have c8 : v1.cell? ⟨w.heap.size, 4, none⟩ = some (.slice x0.a4 o0.to.length x0.c4) := Pk.cell_at m1 4
    have c9 : v1.cell? ⟨w.heap.size, 5, none⟩ = some (.int .i64 o0.td) := Pk.cell_at m1 5
    go_wp2_with fail
    refine (HT.out _ (I.on L2)).mono ?_
    rintro e v2 ⟨y2, rfl, Lv2, O2⟩
    clear c4 c5 c6 c7 c8 c9
    have m10 := Pk.kept Lv2 (Pk.lt_of m1) m1
    clear m1
    have L11 := Pk.join_below L2 Lv2
    clear L2
    have hs12 : v1.heap.size ≤ v2.heap.size := Lv2.size
    go_wp2_with fail
    refine (HS.out _ _ y2 _ O2).mono ?_
    rintro e v3 ⟨x, y, rfl, X, Y, Lv3⟩
    have m13 := Pk.kept Lv3 (Pk.lt_of m10) m10
    clear m10
    have L14 := Pk.join_below L11 Lv3
    clear L11
    have hs15 : v2.heap.size ≤ v3.heap.size := Lv3.size
    clear O2
    have M1 : Below v3.heap.size v3 v3 := Below.refl _ _
    have N16 := Pk.new_below v3 (.cells #[.slice x.a0 R.ln.length x.c0, .slice x.a1 R.ta.length x.c1, .slice x.a2 R.ho.length x.c2, .slice x.a3 R.od.length x.c3, .slice x.a4 R.to.length x.c4, .int .i64 R.td, .slice y.a0 R.ln.length y.c0, .slice y.a1 R.ta.length y.c1, .slice y.a2 R.ho.length y.c2, .slice y.a3 R.od.length y.c3, .slice y.a4 R.to.length y.c4, .int .i64 R.td, .string ⟨#[]⟩, .int .i64 0] 38)
    have m17 := Pk.heap_new v3 (.cells #[.slice x.a0 R.ln.length x.c0, .slice x.a1 R.ta.length x.c1, .slice x.a2 R.ho.length x.c2, .slice x.a3 R.od.length x.c3, .slice x.a4 R.to.length x.c4, .int .i64 R.td, .slice y.a0 R.ln.length y.c0, .slice y.a1 R.ta.length y.c1, .slice y.a2 R.ho.length y.c2, .slice y.a3 R.od.length y.c3, .slice y.a4 R.to.length y.c4, .int .i64 R.td, .string ⟨#[]⟩, .int .i64 0] 38)
    have m19 := Pk.kept N16 (Pk.lt_of m13) m13
    clear m13
    have q20 := Pk.join_below M1 N16
    clear M1
    have L21 := Pk.join_below L14 N16
    clear L14
    have hs22 : v3.heap.size ≤ (v3.alloc (.cells #[.slice x.a0 R.ln.length x.c0, .slice x.a1 R.ta.length x.c1, .slice x.a2 R.ho.length x.c2, .slice x.a3 R.od.length x.c3, .slice x.a4 R.to.length x.c4, .int .i64 R.td, .slice y.a0 R.ln.length y.c0, .slice y.a1 R.ta.length y.c1, .slice y.a2 R.ho.length y.c2, .slice y.a3 R.od.length y.c3, .slice y.a4 R.to.length y.c4, .int .i64 R.td, .string ⟨#[]⟩, .int .i64 0] 38)).heap.size := N16.size
    have hs23 := Pk.lt_of m17
    have c24 : (v3.alloc (.cells #[.slice x.a0 R.ln.length x.c0, .slice x.a1 R.ta.length x.c1, .slice x.a2 R.ho.length x.c2, .slice x.a3 R.od.length x.c3, .slice x.a4 R.to.length x.c4, .int .i64 R.td, .slice y.a0 R.ln.length y.c0, .slice y.a1 R.ta.length y.c1, .slice y.a2 R.ho.length y.c2, .slice y.a3 R.od.length y.c3, .slice y.a4 R.to.length y.c4, .int .i64 R.td, .string ⟨#[]⟩, .int .i64 0] 38)).cell? ⟨w.heap.size, 0, none⟩ = some (.slice x0.a0 o0.ln.length x0.c0) := Pk.cell_at m19 0
    have c25 : (v3.alloc (.cells #[.slice x.a0 R.ln.length x.c0, .slice x.a1 R.ta.length x.c1, .slice x.a2 R.ho.length x.c2, .slice x.a3 R.od.length x.c3, .slice x.a4 R.to.length x.c4, .int .i64 R.td, .slice y.a0 R.ln.length y.c0, .slice y.a1 R.ta.length y.c1, .slice y.a2 R.ho.length y.c2, .slice y.a3 R.od.length y.c3, .slice y.a4 R.to.length y.c4, .int .i64 R.td, .string ⟨#[]⟩, .int .i64 0] 38)).cell? ⟨w.heap.size, 1, none⟩ = some (.slice x0.a1 o0.ta.length x0.c1) := Pk.cell_at m19 1
    have c26 : (v3.alloc (.cells #[.slice x.a0 R.ln.length x.c0, .slice x.a1 R.ta.length x.c1, .slice x.a2 R.ho.length x.c2, .slice x.a3 R.od.length x.c3, .slice x.a4 R.to.length x.c4, .int .i64 R.td, .slice y.a0 R.ln.length y.c0, .slice y.a1 R.ta.length y.c1, .slice y.a2 R.ho.length y.c2, .slice y.a3 R.od.length y.c3, .slice y.a4 R.to.length y.c4, .int .i64 R.td, .string ⟨#[]⟩, .int .i64 0] 38)).cell? ⟨w.heap.size, 2, none⟩ = some (.slice x0.a2 o0.ho.length x0.c2) := Pk.cell_at m19 2
    have c27 : (v3.alloc (.cells #[.slice x.a0 R.ln.length x.c0, .slice x.a1 R.ta.length x.c1, .slice x.a2 R.ho.length x.c2, .slice x.a3 R.od.length x.c3, .slice x.a4 R.to.length x.c4, .int .i64 R.td, .slice y.a0 R.ln.length y.c0, .slice y.a1 R.ta.length y.c1, .slice y.a2 R.ho.length y.c2, .slice y.a3 R.od.length y.c3, .slice y.a4 R.to.length y.c4, .int .i64 R.td, .string ⟨#[]⟩, .int .i64 0] 38)).cell? ⟨w.heap.size, 3, none⟩ = some (.slice x0.a3 o0.od.length x0.c3) := Pk.cell_at m19 3
    have c28 : (v3.alloc (.cells #[.slice x.a0 R.ln.length x.c0, .slice x.a1 R.ta.length x.c1, .slice x.a2 R.ho.length x.c2, .slice x.a3 R.od.length x.c3, .slice x.a4 R.to.length x.c4, .int .i64 R.td, .slice y.a0 R.ln.length y.c0, .slice y.a1 R.ta.length y.c1, .slice y.a2 R.ho.length y.c2, .slice y.a3 R.od.length y.c3, .slice y.a4 R.to.length y.c4, .int .i64 R.td, .string ⟨#[]⟩, .int .i64 0] 38)).cell? ⟨w.heap.size, 4, none⟩ = some (.slice x0.a4 o0.to.length x0.c4) := Pk.cell_at m19 4
    have c29 : (v3.alloc (.cells #[.slice x.a0 R.ln.length x.c0, .slice x.a1 R.ta.length x.c1, .slice x.a2 R.ho.length x.c2, .slice x.a3 R.od.length x.c3, .slice x.a4 R.to.length x.c4, .int .i64 R.td, .slice y.a0 R.ln.length y.c0, .slice y.a1 R.ta.length y.c1, .slice y.a2 R.ho.length y.c2, .slice y.a3 R.od.length y.c3, .slice y.a4 R.to.length y.c4, .int .i64 R.td, .string ⟨#[]⟩, .int .i64 0] 38)).cell? ⟨w.heap.size, 5, none⟩ = some (.int .i64 o0.td) := Pk.cell_at m19 5
    go_wp2_with (refine wpList_store_row rfl 38 _ _ rfl v3.heap.size #[.slice x.a0 R.ln.length x.c0, .slice x.a1 R.ta.length x.c1, .slice x.a2 R.ho.length x.c2, .slice x.a3 R.od.length x.c3, .slice x.a4 R.to.length x.c4, .int .i64 R.td, .slice y.a0 R.ln.length y.c0, .slice y.a1 R.ta.length y.c1, .slice y.a2 R.ho.length y.c2, .slice y.a3 R.od.length y.c3, .slice y.a4 R.to.length y.c4, .int .i64 R.td, .string ⟨#[]⟩, .int .i64 0] rfl rfl 38 #[.slice none 0 0, .slice none 0 0, .slice none 0 0, .slice none 0 0, .slice none 0 0, .int .i64 0, .slice none 0 0, .slice none 0 0, .slice none 0 0, .slice none 0 0, .slice none 0 0, .int .i64 0, .string ⟨#[]⟩, .int .i64 0] (Pk.heap_new v3 _) (by kernel_rfl) (by kernel_rfl) (by kernel_rfl) ?_; rw [World.setRow_alloc_new])
    refine (HT.out _ (I.on L21)).mono ?_
    clear c24 c25 c26 c27 c28 c29
    generalize (v3.alloc (.cells #[.slice x.a0 R.ln.length x.c0, .slice x.a1 R.ta.length x.c1, .slice x.a2 R.ho.length x.c2, .slice x.a3 R.od.length x.c3, .slice x.a4 R.to.length x.c4, .int .i64 R.td, .slice y.a0 R.ln.length y.c0, .slice y.a1 R.ta.length y.c1, .slice y.a2 R.ho.length y.c2, .slice y.a3 R.od.length y.c3, .slice y.a4 R.to.length y.c4, .int .i64 R.td, .string ⟨#[]⟩, .int .i64 0] 38)) = v4 at *
    rintro e v5 ⟨y5, rfl, Lv5, O5⟩
    have m30 := Pk.kept Lv5 (Pk.lt_of m19) m19
    clear m19
    have m31 := Pk.kept Lv5 (Pk.lt_of m17) m17
    clear m17
    have q32 := Pk.join_below q20 Lv5
    clear q20
    have L33 := Pk.join_below L21 Lv5
    clear L21
    have hs34 : v4.heap.size ≤ v5.heap.size := Lv5.size
    have hlo : v3.heap.size < v4.heap.size + 1 + 1 + 1 := by omega
    have hhi : v5.heap.size ≤ v5.heap.size := Nat.le_refl _
    generalize hLO : v4.heap.size + 1 + 1 + 1 = lo5 at *
    clear hLO
    have N35 := Pk.new_below v5 (Of.ofB y5 o0 36)
    have m36 := Pk.heap_new v5 (Of.ofB y5 o0 36)
    have m38 := Pk.kept N35 (Pk.lt_of m30) m30
    clear m30
    have m39 := Pk.kept N35 (Pk.lt_of m31) m31
    clear m31
    have q40 := Pk.join_below q32 N35
    clear q32
    have q41 := O5.on N35
    clear O5
    have L42 := Pk.join_below L33 N35
    clear L33
    have hs43 : v5.heap.size ≤ (v5.alloc (Of.ofB y5 o0 36)).heap.size := N35.size
    have hs44 := Pk.lt_of m36
    go_wp2_with fail
    refine (HI.out _ _ y5 _ q41).mono ?_
    generalize (v5.alloc (Of.ofB y5 o0 36)) = v6 at *
    rintro e v7 ⟨gx, gy, m0, m1, m2, m3, m4, m5, t0, t1, t2, t3, t4, t5, gf, cf, hf, gf', cf', hf', rfl, hm6, hmt, G1, G2, Lv7⟩
    have m45 := Pk.kept Lv7 (Pk.lt_of m38) m38
    clear m38
    have m46 := Pk.kept Lv7 (Pk.lt_of m39) m39
    clear m39
    have m47 := Pk.kept Lv7 (Pk.lt_of m36) m36
    clear m36
    have q48 := Pk.join_below q40 Lv7
    clear q40
    have q49 := q41.on Lv7
    clear q41
    have L50 := Pk.join_below L42 Lv7
    clear L42
    have hs51 : v6.heap.size ≤ v7.heap.size := Lv7.size
    obtain ⟨a1, a2, a3, a4, a5, a6⟩ := G1.le
    obtain ⟨b1, b2, b3, b4, b5, b6⟩ := G2.le
    have N52 := Pk.new_below v7 (.cells #[.slice gx.a0 R.ln.length gx.c0, .slice gx.a1 R.ta.length gx.c1, .slice gx.a2 R.ho.length gx.c2, .slice gx.a3 R.od.length gx.c3, .slice gx.a4 R.to.length gx.c4, .int .i64 R.td, .slice gy.a0 R.ln.length gy.c0, .slice gy.a1 R.ta.length gy.c1, .slice gy.a2 R.ho.length gy.c2, .slice gy.a3 R.od.length gy.c3, .slice gy.a4 R.to.length gy.c4, .int .i64 R.td, .string ⟨#[]⟩, .int .i64 0] 38)
    have m53 := Pk.heap_new v7 (.cells #[.slice gx.a0 R.ln.length gx.c0, .slice gx.a1 R.ta.length gx.c1, .slice gx.a2 R.ho.length gx.c2, .slice gx.a3 R.od.length gx.c3, .slice gx.a4 R.to.length gx.c4, .int .i64 R.td, .slice gy.a0 R.ln.length gy.c0, .slice gy.a1 R.ta.length gy.c1, .slice gy.a2 R.ho.length gy.c2, .slice gy.a3 R.od.length gy.c3, .slice gy.a4 R.to.length gy.c4, .int .i64 R.td, .string ⟨#[]⟩, .int .i64 0] 38)
    have m55 := Pk.kept N52 (Pk.lt_of m45) m45
    clear m45
    have m56 := Pk.kept N52 (Pk.lt_of m46) m46
    clear m46
    have m57 := Pk.kept N52 (Pk.lt_of m47) m47
    clear m47
    have q58 := Pk.join_below q48 N52
    clear q48
    have q59 := q49.on N52
    clear q49
    have q60 := G1.kh (Of.Kh.of (Of.Kh.refl _ _) N52)
    clear G1
    have q61 := G2.kh (Of.Kh.of (Of.Kh.refl _ _) N52)
    clear G2
    have L62 := Pk.join_below L50 N52
    clear L50
    have hs63 : v7.heap.size ≤ (v7.alloc (.cells #[.slice gx.a0 R.ln.length gx.c0, .slice gx.a1 R.ta.length gx.c1, .slice gx.a2 R.ho.length gx.c2, .slice gx.a3 R.od.length gx.c3, .slice gx.a4 R.to.length gx.c4, .int .i64 R.td, .slice gy.a0 R.ln.length gy.c0, .slice gy.a1 R.ta.length gy.c1, .slice gy.a2 R.ho.length gy.c2, .slice gy.a3 R.od.length gy.c3, .slice gy.a4 R.to.length gy.c4, .int .i64 R.td, .string ⟨#[]⟩, .int .i64 0] 38)).heap.size := N52.size
    have hs64 := Pk.lt_of m53
    go_wp2_with (first | (refine wpList_store_row rfl 38 _ _ rfl v7.heap.size #[.slice gx.a0 R.ln.length gx.c0, .slice gx.a1 R.ta.length gx.c1, .slice gx.a2 R.ho.length gx.c2, .slice gx.a3 R.od.length gx.c3, .slice gx.a4 R.to.length gx.c4, .int .i64 R.td, .slice gy.a0 R.ln.length gy.c0, .slice gy.a1 R.ta.length gy.c1, .slice gy.a2 R.ho.length gy.c2, .slice gy.a3 R.od.length gy.c3, .slice gy.a4 R.to.length gy.c4, .int .i64 R.td, .string ⟨#[]⟩, .int .i64 0] rfl rfl 38 #[.slice none 0 0, .slice none 0 0, .slice none 0 0, .slice none 0 0, .slice none 0 0, .int .i64 0, .slice none 0 0, .slice none 0 0, .slice none 0 0, .slice none 0 0, .slice none 0 0, .int .i64 0, .string ⟨#[]⟩, .int .i64 0] (Pk.heap_new v7 _) (by kernel_rfl) (by kernel_rfl) (by kernel_rfl) ?_; rw [World.setRow_alloc_new]) | (refine wpList_load_row rfl 38 _ rfl v7.heap.size rfl 38 #[.slice gx.a0 R.ln.length gx.c0, .slice gx.a1 R.ta.length gx.c1, .slice gx.a2 R.ho.length gx.c2, .slice gx.a3 R.od.length gx.c3, .slice gx.a4 R.to.length gx.c4, .int .i64 R.td, .slice gy.a0 R.ln.length gy.c0, .slice gy.a1 R.ta.length gy.c1, .slice gy.a2 R.ho.length gy.c2, .slice gy.a3 R.od.length gy.c3, .slice gy.a4 R.to.length gy.c4, .int .i64 R.td, .string ⟨#[]⟩, .int .i64 0] (0, 0) _ m53 Tryz.underlying38 rfl (by kernel_rfl) ?_) | (refine wpList_load_row rfl 38 _ rfl v3.heap.size rfl 38 #[.slice x.a0 R.ln.length x.c0, .slice x.a1 R.ta.length x.c1, .slice x.a2 R.ho.length x.c2, .slice x.a3 R.od.length x.c3, .slice x.a4 R.to.length x.c4, .int .i64 R.td, .slice y.a0 R.ln.length y.c0, .slice y.a1 R.ta.length y.c1, .slice y.a2 R.ho.length y.c2, .slice y.a3 R.od.length y.c3, .slice y.a4 R.to.length y.c4, .int .i64 R.td, .string ⟨#[]⟩, .int .i64 0] (0, 0) _ m56 Tryz.underlying38 rfl (by kernel_rfl) ?_))
    refine (HEQ.out gx gy x y _ q60.in q61.in (X _ (Of.Kp.of q58)) (Y _ (Of.Kp.of q58))).mono ?_
    generalize (v7.alloc (.cells #[.slice gx.a0 R.ln.length gx.c0, .slice gx.a1 R.ta.length gx.c1, .slice gx.a2 R.ho.length gx.c2, .slice gx.a3 R.od.length gx.c3, .slice gx.a4 R.to.length gx.c4, .int .i64 R.td, .slice gy.a0 R.ln.length gy.c0, .slice gy.a1 R.ta.length gy.c1, .slice gy.a2 R.ho.length gy.c2, .slice gy.a3 R.od.length gy.c3, .slice gy.a4 R.to.length gy.c4, .int .i64 R.td, .string ⟨#[]⟩, .int .i64 0] 38)) = v8 at *
    rintro e v9 ⟨rfl, Lv9⟩
    have m65 := Pk.kept Lv9 (Pk.lt_of m55) m55
    clear m55
    have m66 := Pk.kept Lv9 (Pk.lt_of m56) m56
    clear m56
    have m67 := Pk.kept Lv9 (Pk.lt_of m57) m57
    clear m57
    have m68 := Pk.kept Lv9 (Pk.lt_of m53) m53
    clear m53
    have q69 := Pk.join_below q58 Lv9
    clear q58
    have q70 := q59.on Lv9
    clear q59
    have q71 := q60.kh (Of.Kh.of (Of.Kh.refl _ _) Lv9)
    clear q60
    have q72 := q61.kh (Of.Kh.of (Of.Kh.refl _ _) Lv9)
    clear q61
    have L73 := Pk.join_below L62 Lv9
    clear L62
    have hs74 : v8.heap.size ≤ v9.heap.size := Lv9.size
    have c75 : v9.cell? ⟨w.heap.size, 0, none⟩ = some (.slice x0.a0 o0.ln.length x0.c0) := Pk.cell_at m65 0
    have c76 : v9.cell? ⟨w.heap.size, 1, none⟩ = some (.slice x0.a1 o0.ta.length x0.c1) := Pk.cell_at m65 1
    have c77 : v9.cell? ⟨w.heap.size, 2, none⟩ = some (.slice x0.a2 o0.ho.length x0.c2) := Pk.cell_at m65 2
    have c78 : v9.cell? ⟨w.heap.size, 3, none⟩ = some (.slice x0.a3 o0.od.length x0.c3) := Pk.cell_at m65 3
    have c79 : v9.cell? ⟨w.heap.size, 4, none⟩ = some (.slice x0.a4 o0.to.length x0.c4) := Pk.cell_at m65 4
    have c80 : v9.cell? ⟨w.heap.size, 5, none⟩ = some (.int .i64 o0.td) := Pk.cell_at m65 5
    have c81 : v9.cell? ⟨v5.heap.size, 0, none⟩ = some (.slice y5.a0 o0.ln.length y5.c0) := Pk.cell_at m67 0
    have c82 : v9.cell? ⟨v5.heap.size, 1, none⟩ = some (.slice y5.a1 o0.ta.length y5.c1) := Pk.cell_at m67 1
    have c83 : v9.cell? ⟨v5.heap.size, 2, none⟩ = some (.slice y5.a2 o0.ho.length y5.c2) := Pk.cell_at m67 2
    have c84 : v9.cell? ⟨v5.heap.size, 3, none⟩ = some (.slice y5.a3 o0.od.length y5.c3) := Pk.cell_at m67 3
    have c85 : v9.cell? ⟨v5.heap.size, 4, none⟩ = some (.slice y5.a4 o0.to.length y5.c4) := Pk.cell_at m67 4
    have c86 : v9.cell? ⟨v5.heap.size, 5, none⟩ = some (.int .i64 o0.td) := Pk.cell_at m67 5
    have I5 := Of.Oc.in q70
    go_wp2
    go_cut [45] from 14 (fun t wc => t = .bool false ∧ Below v9.heap.size v9 wc)
    case first =>
      go_region_with (first
        | (go_at_call 6; refine (HT.out _ ?_).mono ?_; (first | exact I.on L73 | exact I.on L73.drew); rintro e x1 ⟨y1, rfl, M0, J1⟩; have K1 : Below v9.heap.size v9 x1 := (by first | exact M0 | exact ((Below.refl _ _).drew).trans M0); have p1 := Pk.kept K1 (Pk.lt_of m67) m67; have I11 := I5.on K1; have d0 : x1.cell? ⟨v5.heap.size, 0, none⟩ = some (.slice y5.a0 o0.ln.length y5.c0) := Pk.cell_at p1 0; have d1 : x1.cell? ⟨v5.heap.size, 1, none⟩ = some (.slice y5.a1 o0.ta.length y5.c1) := Pk.cell_at p1 1; have d2 : x1.cell? ⟨v5.heap.size, 2, none⟩ = some (.slice y5.a2 o0.ho.length y5.c2) := Pk.cell_at p1 2; have d3 : x1.cell? ⟨v5.heap.size, 3, none⟩ = some (.slice y5.a3 o0.od.length y5.c3) := Pk.cell_at p1 3; have d4 : x1.cell? ⟨v5.heap.size, 4, none⟩ = some (.slice y5.a4 o0.to.length y5.c4) := Pk.cell_at p1 4; have d5 : x1.cell? ⟨v5.heap.size, 5, none⟩ = some (.int .i64 o0.td) := Pk.cell_at p1 5; clear M0 p1)
        | (go_at_call 9; refine (HEO.out _ _ _ ?_ ?_).mono ?_; (exact I11); (exact J1.in); rintro e x2 ⟨rfl, M3⟩))
      all_goals
        have M4 := Pk.join_below K1 M3
        go_wp2
        go_meet
        case rel => exact ⟨rfl, M4⟩
    case rest =>
      obtain ⟨rfl, Lx2⟩ := hcut
      clear c75 c76 c77 c78 c79 c80 c81 c82 c83 c84 c85 c86
      obtain ⟨x2, hx2⟩ : ∃ x2, x2 = wc := ⟨_, rfl⟩
      subst hx2
      clear I5
      have m87 := Pk.kept Lx2 (Pk.lt_of m65) m65
      clear m65
      have m88 := Pk.kept Lx2 (Pk.lt_of m66) m66
      clear m66
      have m89 := Pk.kept Lx2 (Pk.lt_of m67) m67
      clear m67
      have m90 := Pk.kept Lx2 (Pk.lt_of m68) m68
      clear m68
      have q91 := Pk.join_below q69 Lx2
      clear q69
      have q92 := q70.on Lx2
      clear q70
      have q93 := q71.kh (Of.Kh.of (Of.Kh.refl _ _) Lx2)
      clear q71
      have q94 := q72.kh (Of.Kh.of (Of.Kh.refl _ _) Lx2)
      clear q72
      have L95 := Pk.join_below L73 Lx2
      clear L73
      have hs96 : v9.heap.size ≤ x2.heap.size := Lx2.size
      have c97 : x2.cell? ⟨v5.heap.size, 0, none⟩ = some (.slice y5.a0 o0.ln.length y5.c0) := Pk.cell_at m89 0
      have c98 : x2.cell? ⟨v5.heap.size, 1, none⟩ = some (.slice y5.a1 o0.ta.length y5.c1) := Pk.cell_at m89 1
      have c99 : x2.cell? ⟨v5.heap.size, 2, none⟩ = some (.slice y5.a2 o0.ho.length y5.c2) := Pk.cell_at m89 2
      have c100 : x2.cell? ⟨v5.heap.size, 3, none⟩ = some (.slice y5.a3 o0.od.length y5.c3) := Pk.cell_at m89 3
      have c101 : x2.cell? ⟨v5.heap.size, 4, none⟩ = some (.slice y5.a4 o0.to.length y5.c4) := Pk.cell_at m89 4
      have c102 : x2.cell? ⟨v5.heap.size, 5, none⟩ = some (.int .i64 o0.td) := Pk.cell_at m89 5
      go_wp2_with fail
      refine (HMC.out _ _ y5 _ (by omega) q92).mono ?_
      clear c97 c98 c99 c100 c101 c102
      rintro e v10 ⟨z, rfl, hz, FF⟩
      clear q92
      have m103 := FF.kept m87 (by omega)
      clear m87
      have m104 := FF.kept m88 (by omega)
      clear m88
      have m105 := FF.kept m89 (by omega)
      clear m89
      have m106 := FF.kept m90 (by omega)
      clear m90
      have q107 := FF.below q91 (by omega) (by omega)
      clear q91
      have q108 := q93.kh (⟨FF.size, fun b h1 h2 => FF.block b h2 (Or.inr (by omega))⟩)
      clear q93
      have q109 := q94.kh (⟨FF.size, fun b h1 h2 => FF.block b h2 (Or.inr (by omega))⟩)
      clear q94
      have L110 := FF.below L95 (by omega) (by omega)
      clear L95
      have hs111 : x2.heap.size ≤ v10.heap.size := FF.size
      have hdk : decide (z < 0) = false := decide_eq_false (by omega)
      clear hz FF
      have c112 : v10.cell? ⟨v7.heap.size, 0, none⟩ = some (.slice gx.a0 R.ln.length gx.c0) := Pk.cell_at m106 0
      have c113 : v10.cell? ⟨v7.heap.size, 1, none⟩ = some (.slice gx.a1 R.ta.length gx.c1) := Pk.cell_at m106 1
      have c114 : v10.cell? ⟨v7.heap.size, 2, none⟩ = some (.slice gx.a2 R.ho.length gx.c2) := Pk.cell_at m106 2
      have c115 : v10.cell? ⟨v7.heap.size, 3, none⟩ = some (.slice gx.a3 R.od.length gx.c3) := Pk.cell_at m106 3
      have c116 : v10.cell? ⟨v7.heap.size, 4, none⟩ = some (.slice gx.a4 R.to.length gx.c4) := Pk.cell_at m106 4
      have c117 : v10.cell? ⟨v7.heap.size, 5, none⟩ = some (.int .i64 R.td) := Pk.cell_at m106 5
      have c118 : v10.cell? ⟨v7.heap.size, 6, none⟩ = some (.slice gy.a0 R.ln.length gy.c0) := Pk.cell_at m106 6
      have c119 : v10.cell? ⟨v7.heap.size, 7, none⟩ = some (.slice gy.a1 R.ta.length gy.c1) := Pk.cell_at m106 7
      have c120 : v10.cell? ⟨v7.heap.size, 8, none⟩ = some (.slice gy.a2 R.ho.length gy.c2) := Pk.cell_at m106 8
      have c121 : v10.cell? ⟨v7.heap.size, 9, none⟩ = some (.slice gy.a3 R.od.length gy.c3) := Pk.cell_at m106 9
      have c122 : v10.cell? ⟨v7.heap.size, 10, none⟩ = some (.slice gy.a4 R.to.length gy.c4) := Pk.cell_at m106 10
      have c123 : v10.cell? ⟨v7.heap.size, 11, none⟩ = some (.int .i64 R.td) := Pk.cell_at m106 11
      have c124 : v10.cell? ⟨v7.heap.size, 12, none⟩ = some (.string ⟨#[]⟩) := Pk.cell_at m106 12
      have c125 : v10.cell? ⟨v7.heap.size, 13, none⟩ = some (.int .i64 0) := Pk.cell_at m106 13
      have c126 : v10.cell? ⟨v3.heap.size, 0, none⟩ = some (.slice x.a0 R.ln.length x.c0) := Pk.cell_at m104 0
      have c127 : v10.cell? ⟨v3.heap.size, 1, none⟩ = some (.slice x.a1 R.ta.length x.c1) := Pk.cell_at m104 1
      have c128 : v10.cell? ⟨v3.heap.size, 2, none⟩ = some (.slice x.a2 R.ho.length x.c2) := Pk.cell_at m104 2
      have c129 : v10.cell? ⟨v3.heap.size, 3, none⟩ = some (.slice x.a3 R.od.length x.c3) := Pk.cell_at m104 3
      have c130 : v10.cell? ⟨v3.heap.size, 4, none⟩ = some (.slice x.a4 R.to.length x.c4) := Pk.cell_at m104 4
      have c131 : v10.cell? ⟨v3.heap.size, 5, none⟩ = some (.int .i64 R.td) := Pk.cell_at m104 5
      have c132 : v10.cell? ⟨v3.heap.size, 6, none⟩ = some (.slice y.a0 R.ln.length y.c0) := Pk.cell_at m104 6
      have c133 : v10.cell? ⟨v3.heap.size, 7, none⟩ = some (.slice y.a1 R.ta.length y.c1) := Pk.cell_at m104 7
      have c134 : v10.cell? ⟨v3.heap.size, 8, none⟩ = some (.slice y.a2 R.ho.length y.c2) := Pk.cell_at m104 8
      have c135 : v10.cell? ⟨v3.heap.size, 9, none⟩ = some (.slice y.a3 R.od.length y.c3) := Pk.cell_at m104 9
      have c136 : v10.cell? ⟨v3.heap.size, 10, none⟩ = some (.slice y.a4 R.to.length y.c4) := Pk.cell_at m104 10
      have c137 : v10.cell? ⟨v3.heap.size, 11, none⟩ = some (.int .i64 R.td) := Pk.cell_at m104 11
      have c138 : v10.cell? ⟨v3.heap.size, 12, none⟩ = some (.string ⟨#[]⟩) := Pk.cell_at m104 12
      have c139 : v10.cell? ⟨v3.heap.size, 13, none⟩ = some (.int .i64 0) := Pk.cell_at m104 13
      go_wp2_with fail
      refine (HEQ.out gx gy x y _ q108.in q109.in (X _ (Of.Kp.of q107)) (Y _ (Of.Kp.of q107))).mono ?_
      clear c112 c113 c114 c115 c116 c117 c118 c119 c120 c121 c122 c123 c124 c125 c126 c127 c128 c129 c130 c131 c132 c133 c134 c135 c136 c137 c138 c139
      rintro e v11 ⟨rfl, Lv11⟩
      have m140 := Pk.kept Lv11 (Pk.lt_of m103) m103
      clear m103
      have m141 := Pk.kept Lv11 (Pk.lt_of m104) m104
      clear m104
      have m142 := Pk.kept Lv11 (Pk.lt_of m105) m105
      clear m105
      have m143 := Pk.kept Lv11 (Pk.lt_of m106) m106
      clear m106
      have q144 := Pk.join_below q107 Lv11
      clear q107
      have q145 := q108.kh (Of.Kh.of (Of.Kh.refl _ _) Lv11)
      clear q108
      have q146 := q109.kh (Of.Kh.of (Of.Kh.refl _ _) Lv11)
      clear q109
      have L147 := Pk.join_below L110 Lv11
      clear L110
      have hs148 : v10.heap.size ≤ v11.heap.size := Lv11.size
      go_wp2_with (refine wpList_load_row rfl 38 _ rfl v7.heap.size rfl 38 #[.slice gx.a0 R.ln.length gx.c0, .slice gx.a1 R.ta.length gx.c1, .slice gx.a2 R.ho.length gx.c2, .slice gx.a3 R.od.length gx.c3, .slice gx.a4 R.to.length gx.c4, .int .i64 R.td, .slice gy.a0 R.ln.length gy.c0, .slice gy.a1 R.ta.length gy.c1, .slice gy.a2 R.ho.length gy.c2, .slice gy.a3 R.od.length gy.c3, .slice gy.a4 R.to.length gy.c4, .int .i64 R.td, .string ⟨#[]⟩, .int .i64 0] (0, 0) _ m143 Tryz.underlying38 rfl (by kernel_rfl) ?_)
      refine (HMP.out m0 m1 m2 m3 m4 m5 t0 t1 t2 t3 t4 t5 gx gy gf cf hf gf' cf' hf' _ hmt (Of.Rw'.of q145) (Of.Rw'.of q146)).mono ?_
      rintro e v12 ⟨rfl, FF, Q1, Q2⟩
      clear q145 q146
      have m149 := FF.kept m140 (by omega)
      clear m140
      have m150 := FF.kept m141 (by omega)
      clear m141
      have m151 := FF.kept m142 (by omega)
      clear m142
      have m152 := FF.kept m143 (by omega)
      clear m143
      have q153 := FF.below q144 (by omega) (by omega)
      clear q144
      have L154 := FF.below L147 (by omega) (by omega)
      clear L147
      have hs155 : v11.heap.size ≤ v12.heap.size := FF.size
      go_wp2_with (refine wpList_load_row rfl 38 _ rfl v7.heap.size rfl 38 #[.slice gx.a0 R.ln.length gx.c0, .slice gx.a1 R.ta.length gx.c1, .slice gx.a2 R.ho.length gx.c2, .slice gx.a3 R.od.length gx.c3, .slice gx.a4 R.to.length gx.c4, .int .i64 R.td, .slice gy.a0 R.ln.length gy.c0, .slice gy.a1 R.ta.length gy.c1, .slice gy.a2 R.ho.length gy.c2, .slice gy.a3 R.od.length gy.c3, .slice gy.a4 R.to.length gy.c4, .int .i64 R.td, .string ⟨#[]⟩, .int .i64 0] (0, 0) _ m152 Tryz.underlying38 rfl (by kernel_rfl) ?_)
      refine (HHP.out m0 m1 m2 m3 m4 m5 t0 t1 t2 t3 t4 t5 gx gy gf cf hf gf' cf' hf' _ ⟨Q1, Q2⟩).mono ?_
      rintro e v13 ⟨rfl, Lv13⟩
      have m156 := Pk.kept Lv13 (Pk.lt_of m149) m149
      clear m149
      have m157 := Pk.kept Lv13 (Pk.lt_of m150) m150
      clear m150
      have m158 := Pk.kept Lv13 (Pk.lt_of m151) m151
      clear m151
      have m159 := Pk.kept Lv13 (Pk.lt_of m152) m152
      clear m152
      have q160 := Pk.join_below q153 Lv13
      clear q153
      have q161 := Q1.on Lv13
      clear Q1
      have q162 := Q2.on Lv13
      clear Q2
      have L163 := Pk.join_below L154 Lv13
      clear L154
      have hs164 : v12.heap.size ≤ v13.heap.size := Lv13.size
      have c165 : v13.cell? ⟨w.heap.size, 0, none⟩ = some (.slice x0.a0 o0.ln.length x0.c0) := Pk.cell_at m156 0
      have c166 : v13.cell? ⟨w.heap.size, 1, none⟩ = some (.slice x0.a1 o0.ta.length x0.c1) := Pk.cell_at m156 1
      have c167 : v13.cell? ⟨w.heap.size, 2, none⟩ = some (.slice x0.a2 o0.ho.length x0.c2) := Pk.cell_at m156 2
      have c168 : v13.cell? ⟨w.heap.size, 3, none⟩ = some (.slice x0.a3 o0.od.length x0.c3) := Pk.cell_at m156 3
      have c169 : v13.cell? ⟨w.heap.size, 4, none⟩ = some (.slice x0.a4 o0.to.length x0.c4) := Pk.cell_at m156 4
      have c170 : v13.cell? ⟨w.heap.size, 5, none⟩ = some (.int .i64 o0.td) := Pk.cell_at m156 5
      go_wp2_with fail
      refine (HT.out _ (I.on L163)).mono ?_
      rintro e v14 ⟨y14, rfl, Lv14, O14⟩
      clear c165 c166 c167 c168 c169 c170
      have m171 := Pk.kept Lv14 (Pk.lt_of m156) m156
      clear m156
      have m172 := Pk.kept Lv14 (Pk.lt_of m157) m157
      clear m157
      have m173 := Pk.kept Lv14 (Pk.lt_of m158) m158
      clear m158
      have m174 := Pk.kept Lv14 (Pk.lt_of m159) m159
      clear m159
      have q175 := Pk.join_below q160 Lv14
      clear q160
      have q176 := q161.on Lv14
      clear q161
      have q177 := q162.on Lv14
      clear q162
      have L178 := Pk.join_below L163 Lv14
      clear L163
      have hs179 : v13.heap.size ≤ v14.heap.size := Lv14.size
      go_wp2_with fail
      refine (HI.out _ _ y14 _ O14).mono ?_
      rintro e v15 ⟨hx, hy, n0, n1, n2, n3, n4, n5, u0, u1, u2, u3, u4, u5, kf, lf, jf, kf', lf', jf', rfl, -, -, G3, G4, Lv15⟩
      have m180 := Pk.kept Lv15 (Pk.lt_of m171) m171
      clear m171
      have m181 := Pk.kept Lv15 (Pk.lt_of m172) m172
      clear m172
      have m182 := Pk.kept Lv15 (Pk.lt_of m173) m173
      clear m173
      have m183 := Pk.kept Lv15 (Pk.lt_of m174) m174
      clear m174
      have q184 := Pk.join_below q175 Lv15
      clear q175
      have q185 := q176.on Lv15
      clear q176
      have q186 := q177.on Lv15
      clear q177
      have L187 := Pk.join_below L178 Lv15
      clear L178
      have hs188 : v14.heap.size ≤ v15.heap.size := Lv15.size
      clear O14
      have N189 := Pk.new_below v15 (.cells #[.slice hx.a0 R.ln.length hx.c0, .slice hx.a1 R.ta.length hx.c1, .slice hx.a2 R.ho.length hx.c2, .slice hx.a3 R.od.length hx.c3, .slice hx.a4 R.to.length hx.c4, .int .i64 R.td, .slice hy.a0 R.ln.length hy.c0, .slice hy.a1 R.ta.length hy.c1, .slice hy.a2 R.ho.length hy.c2, .slice hy.a3 R.od.length hy.c3, .slice hy.a4 R.to.length hy.c4, .int .i64 R.td, .string ⟨#[]⟩, .int .i64 0] 38)
      have m190 := Pk.heap_new v15 (.cells #[.slice hx.a0 R.ln.length hx.c0, .slice hx.a1 R.ta.length hx.c1, .slice hx.a2 R.ho.length hx.c2, .slice hx.a3 R.od.length hx.c3, .slice hx.a4 R.to.length hx.c4, .int .i64 R.td, .slice hy.a0 R.ln.length hy.c0, .slice hy.a1 R.ta.length hy.c1, .slice hy.a2 R.ho.length hy.c2, .slice hy.a3 R.od.length hy.c3, .slice hy.a4 R.to.length hy.c4, .int .i64 R.td, .string ⟨#[]⟩, .int .i64 0] 38)
      have m192 := Pk.kept N189 (Pk.lt_of m180) m180
      clear m180
      have m193 := Pk.kept N189 (Pk.lt_of m181) m181
      clear m181
      have m194 := Pk.kept N189 (Pk.lt_of m182) m182
      clear m182
      have m195 := Pk.kept N189 (Pk.lt_of m183) m183
      clear m183
      have q196 := Pk.join_below q184 N189
      clear q184
      have q197 := q185.on N189
      clear q185
      have q198 := q186.on N189
      clear q186
      have q199 := G3.kh (Of.Kh.of (Of.Kh.refl _ _) N189)
      clear G3
      have q200 := G4.kh (Of.Kh.of (Of.Kh.refl _ _) N189)
      clear G4
      have L201 := Pk.join_below L187 N189
      clear L187
      have hs202 : v15.heap.size ≤ (v15.alloc (.cells #[.slice hx.a0 R.ln.length hx.c0, .slice hx.a1 R.ta.length hx.c1, .slice hx.a2 R.ho.length hx.c2, .slice hx.a3 R.od.length hx.c3, .slice hx.a4 R.to.length hx.c4, .int .i64 R.td, .slice hy.a0 R.ln.length hy.c0, .slice hy.a1 R.ta.length hy.c1, .slice hy.a2 R.ho.length hy.c2, .slice hy.a3 R.od.length hy.c3, .slice hy.a4 R.to.length hy.c4, .int .i64 R.td, .string ⟨#[]⟩, .int .i64 0] 38)).heap.size := N189.size
      have hs203 := Pk.lt_of m190
      go_wp2_with (first | (refine wpList_store_row rfl 38 _ _ rfl v15.heap.size #[.slice hx.a0 R.ln.length hx.c0, .slice hx.a1 R.ta.length hx.c1, .slice hx.a2 R.ho.length hx.c2, .slice hx.a3 R.od.length hx.c3, .slice hx.a4 R.to.length hx.c4, .int .i64 R.td, .slice hy.a0 R.ln.length hy.c0, .slice hy.a1 R.ta.length hy.c1, .slice hy.a2 R.ho.length hy.c2, .slice hy.a3 R.od.length hy.c3, .slice hy.a4 R.to.length hy.c4, .int .i64 R.td, .string ⟨#[]⟩, .int .i64 0] rfl rfl 38 #[.slice none 0 0, .slice none 0 0, .slice none 0 0, .slice none 0 0, .slice none 0 0, .int .i64 0, .slice none 0 0, .slice none 0 0, .slice none 0 0, .slice none 0 0, .slice none 0 0, .int .i64 0, .string ⟨#[]⟩, .int .i64 0] (Pk.heap_new v15 _) (by kernel_rfl) (by kernel_rfl) (by kernel_rfl) ?_; rw [World.setRow_alloc_new]) | (refine wpList_load_row rfl 38 _ rfl v15.heap.size rfl 38 #[.slice hx.a0 R.ln.length hx.c0, .slice hx.a1 R.ta.length hx.c1, .slice hx.a2 R.ho.length hx.c2, .slice hx.a3 R.od.length hx.c3, .slice hx.a4 R.to.length hx.c4, .int .i64 R.td, .slice hy.a0 R.ln.length hy.c0, .slice hy.a1 R.ta.length hy.c1, .slice hy.a2 R.ho.length hy.c2, .slice hy.a3 R.od.length hy.c3, .slice hy.a4 R.to.length hy.c4, .int .i64 R.td, .string ⟨#[]⟩, .int .i64 0] (0, 0) _ m190 Tryz.underlying38 rfl (by kernel_rfl) ?_) | (refine wpList_load_row rfl 38 _ rfl v3.heap.size rfl 38 #[.slice x.a0 R.ln.length x.c0, .slice x.a1 R.ta.length x.c1, .slice x.a2 R.ho.length x.c2, .slice x.a3 R.od.length x.c3, .slice x.a4 R.to.length x.c4, .int .i64 R.td, .slice y.a0 R.ln.length y.c0, .slice y.a1 R.ta.length y.c1, .slice y.a2 R.ho.length y.c2, .slice y.a3 R.od.length y.c3, .slice y.a4 R.to.length y.c4, .int .i64 R.td, .string ⟨#[]⟩, .int .i64 0] (0, 0) _ m193 Tryz.underlying38 rfl (by kernel_rfl) ?_))
      refine (HEQ.out hx hy x y _ q199.in q200.in (X _ (Of.Kp.of q196)) (Y _ (Of.Kp.of q196))).mono ?_
      generalize (v15.alloc (.cells #[.slice hx.a0 R.ln.length hx.c0, .slice hx.a1 R.ta.length hx.c1, .slice hx.a2 R.ho.length hx.c2, .slice hx.a3 R.od.length hx.c3, .slice hx.a4 R.to.length hx.c4, .int .i64 R.td, .slice hy.a0 R.ln.length hy.c0, .slice hy.a1 R.ta.length hy.c1, .slice hy.a2 R.ho.length hy.c2, .slice hy.a3 R.od.length hy.c3, .slice hy.a4 R.to.length hy.c4, .int .i64 R.td, .string ⟨#[]⟩, .int .i64 0] 38)) = v16 at *
      rintro e v17 ⟨rfl, Lv17⟩
      have m204 := Pk.kept Lv17 (Pk.lt_of m192) m192
      clear m192
      have m205 := Pk.kept Lv17 (Pk.lt_of m193) m193
      clear m193
      have m206 := Pk.kept Lv17 (Pk.lt_of m194) m194
      clear m194
      have m207 := Pk.kept Lv17 (Pk.lt_of m195) m195
      clear m195
      have m208 := Pk.kept Lv17 (Pk.lt_of m190) m190
      clear m190
      have q209 := Pk.join_below q196 Lv17
      clear q196
      have q210 := q197.on Lv17
      clear q197
      have q211 := q198.on Lv17
      clear q198
      have q212 := q199.kh (Of.Kh.of (Of.Kh.refl _ _) Lv17)
      clear q199
      have q213 := q200.kh (Of.Kh.of (Of.Kh.refl _ _) Lv17)
      clear q200
      have L214 := Pk.join_below L201 Lv17
      clear L201
      have hs215 : v16.heap.size ≤ v17.heap.size := Lv17.size
      go_wp2_with (refine wpList_load_row rfl 38 _ rfl v7.heap.size rfl 38 #[.slice gx.a0 R.ln.length gx.c0, .slice gx.a1 R.ta.length gx.c1, .slice gx.a2 R.ho.length gx.c2, .slice gx.a3 R.od.length gx.c3, .slice gx.a4 R.to.length gx.c4, .int .i64 R.td, .slice gy.a0 R.ln.length gy.c0, .slice gy.a1 R.ta.length gy.c1, .slice gy.a2 R.ho.length gy.c2, .slice gy.a3 R.od.length gy.c3, .slice gy.a4 R.to.length gy.c4, .int .i64 R.td, .string ⟨#[]⟩, .int .i64 0] (0, 0) _ m207 Tryz.underlying38 rfl (by kernel_rfl) ?_)
      refine (HHP.out m0 m1 m2 m3 m4 m5 t0 t1 t2 t3 t4 t5 gx gy gf cf hf gf' cf' hf' _ ⟨q210, q211⟩).mono ?_
      rintro e v18 ⟨rfl, Lv18⟩
      have m216 := Pk.kept Lv18 (Pk.lt_of m204) m204
      clear m204
      have m217 := Pk.kept Lv18 (Pk.lt_of m205) m205
      clear m205
      have m218 := Pk.kept Lv18 (Pk.lt_of m206) m206
      clear m206
      have m219 := Pk.kept Lv18 (Pk.lt_of m207) m207
      clear m207
      have m220 := Pk.kept Lv18 (Pk.lt_of m208) m208
      clear m208
      have q221 := Pk.join_below q209 Lv18
      clear q209
      have q222 := q210.on Lv18
      clear q210
      have q223 := q211.on Lv18
      clear q211
      have q224 := q212.kh (Of.Kh.of (Of.Kh.refl _ _) Lv18)
      clear q212
      have q225 := q213.kh (Of.Kh.of (Of.Kh.refl _ _) Lv18)
      clear q213
      have L226 := Pk.join_below L214 Lv18
      clear L214
      have hs227 : v17.heap.size ≤ v18.heap.size := Lv18.size
      go_wp2
      go_ret
      exact ⟨rfl, L226⟩
  · have HM : Hid (_ ∧ _) := ⟨hl, hb⟩
    have N := Pk.new_below w (Of.ofB x0 o0 28)
    clear hl hb
    go_enter Tryz.func3, Tryz.ntmps3
    go_wp2_with fail
    refine (Of.szOffice_no x0 o0 _ (I.on N) HM.out.1 (by have := HM.out.2; omega)).mono ?_
    rintro e w1 ⟨rfl, L1⟩
    go_wp2
    go_ret
    exact ⟨rfl, Pk.join_below N L1⟩

set_option maxRecDepth 100000 in
theorem contract (H : Type) (enc : TypeId × Value → H) (W : World) (base : Nat) (args : Array Value) (ds gs : List (DataW H)) (before : List MemPlace)
    (hval : ∀ (j : Nat) t v, Tryz.f3.params[j]? = some t → args[j]? = some v → Value.okWide Tryz.prog W .any base t v)
    (hW : DataW.Whole enc Tryz.prog Tryz.f3.params.toList Rows.fnExactPlatformStartSpec.vars false W args.toList ds gs before) :
    Calls Tryz.prog 3 args W fun e W' => ∃ v, e = .returned v ∧ Rows.fnExactPlatformStartSpec.post enc Tryz.prog Tryz.f3 false true false false W args v W' := by
  have hW' := hW
  obtain ⟨p, q, hA0, hV, rfl, hfz, hnd⟩ := hW
  have hA : DataW.TrodAll enc Tryz.prog W 0 (fun _ => true) true Tryz.f3.params.toList args.toList ds p := hA0
  rw [Tryz.params3] at hA hval
  obtain ⟨v0, vs0, d0, ds0, p0, q0, hargs, rfl, rfl, h0, r0⟩ := trodAll_cons hA
  obtain ⟨rfl, rfl, rfl⟩ := trodAll_nil r0
  obtain rfl : args = #[v0] := by cases args; simp_all
  obtain ⟨rfl, rfl⟩ := trodVars_none hV
  have k0 := h0
  have lt0 : ∀ x ∈ p0, x.block < W.heap.size := by obtain ⟨m, hm⟩ := k0; exact DataW.trod_lt m _ _ _ hm
  obtain ⟨x0, o0, rfl, w0i, w0l⟩ := Of.of_open (hval 0 28 v0 rfl rfl) h0
  clear hA0
  refine (walk x0 o0 W ⟨w0i, w0l⟩  ).mono fun e W' ⟨he, bel⟩ => ?_
  subst he
  exact ⟨_, rfl, _, _, _, [], _, [], hW', trodAll_mk1 (shut_bool Tryz.underlying4 _), (trodAll_cons_mk (Below.trod Errs.laidOut (by kernel_rfl) (of_decide_eq_true (by kernel_rfl)) k0 bel lt0) trodAll_mk0), rfl, bel.frame _, fun h => by cases h⟩

set_option maxRecDepth 100000 in
theorem lifted (os : Os) (started : os.Started) (H : Type) (enc : TypeId × Value → H) :
    ReturnsInHanded {} Tryz.checked os 3 .any (Rows.fnExactPlatformStartSpec.pre6 enc Tryz.prog Tryz.f3 Rows.fnExactPlatformStartRow.domain false) (Rows.fnExactPlatformStartSpec.post enc Tryz.prog Tryz.f3 false true false false) := by
  refine returnsInHanded_of_change (C := Tryz.checked) Errs.own started (by kernel_rfl) Tryz.func3
    (ChangeSpec.witness6 (enc := enc) (C := Tryz.checked) false ⟨#[], #[.agg #[.slice none 0 0, .slice none 0 0, .slice none 0 0, .slice none 0 0, .slice none 0 0, .int .i64 0]], []⟩ 8 (by kernel_rfl) (by kernel_rfl) (by kernel_rfl) (by kernel_rfl)) ?_
  intro W base args ds gs before hval hW _ _
  exact contract H enc W base args ds gs before hval hW

set_option maxRecDepth 100000 in
theorem over : Rows.fnExactPlatformStartRow.holds Tryz.pinned (OpenSpec.ofChange Rows.fnExactPlatformStartSpec) :=
  OpenClaim.holds_of_wide 3 Tryz.f3 rfl rfl rfl rfl rfl rfl rfl ⟨rfl, rfl, rfl, rfl, rfl⟩ rfl rfl rfl rfl rfl (by kernel_rfl) Tryz.func3 (by kernel_rfl)
    (of_decide_eq_true (by kernel_rfl)) (by unfold Func.isWrapper; first | (rw [if_pos (by decide +kernel)]; kernel_rfl) | (rw [if_neg (by decide +kernel)]; exact ⟨rfl, rfl⟩))
    (fun os started H enc _ => lifted os started H enc)
end Go.Proofs.YtehmlnojjfeheaaGreat.fnExactPlatformStart
namespace Go.Proofs.YtehmlnojjfeheaaGreat
theorem FnExactPlatformStart_holds : Rows.FnExactPlatformStartSaid := fnExactPlatformStart.over
end Go.Proofs.YtehmlnojjfeheaaGreat
