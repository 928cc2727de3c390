/- For every device number, parameters, open key and issuer the law of HandStart answers true: the program's HandStart and its model return the same device and the same verdict, the program's in memory of its own, and a further call leaves it as it was. No condition. -/
import Derived.Test.YtlgolnddhfadeaaErrs
import Derived.ShutString
import Derived.Lib.SmallJoins
import Derived.Test.YtlgolnddhfadeaaHnStart
import Derived.Test.YtlgolnddhfadeaaHnTo
namespace Go.Proofs.Ytlgolnddhfadeaa.fnExactHandStart
open Go.ChangeShapes Go.WideShapes Go.ChangeAt Go.RowKit Go.Joins
open Go.ChangeMaps (open_string shut_string)
set_option linter.unusedVariables false
set_option linter.unusedSimpArgs false

set_option maxRecDepth 100000 in
set_option maxHeartbeats 8000000 in
theorem walk (a0 : Int) (w0 : (Lit.int .i64 a0).wf = true) (a1_0 : Int) (w1_0 : (Lit.int .i64 a1_0).wf = true) (a1_1 : Int) (w1_1 : (Lit.int .i64 a1_1).wf = true) (a1_2 : Int) (w1_2 : (Lit.int .i64 a1_2).wf = true) (a2 : Int) (w2 : (Lit.int .i64 a2).wf = true) (a3 : Int) (w3 : (Lit.int .i64 a3).wf = true) (w : World)    :
    Calls Try.prog 5 #[.int .i64 a0, .agg #[.int .i64 a1_0, .int .i64 a1_1, .int .i64 a1_2], .int .i64 a2, .int .i64 a3] w fun e w' => e = .returned (.bool true) ∧ Below w.heap.size w w' := by
  have HT : Hid (∀ W : World, _) := fun W => Hn.toParams_val a1_0 a1_1 a1_2 W
  have HS : Hid (∀ W : World, _) := fun W => Hn.specStart_is a0 a1_0 a1_1 a1_2 a2 a3 W
  have HI : Hid (∀ W : World, _) := fun W => Hn.implStart_is a0 a1_0 a1_1 a1_2 a2 a3 W
  have hR := Hn.start_ol (Hn.startB a0 a1_0 a1_1 a1_2 a2 a3) a0 a1_0 a1_1 a1_2 a2 a3
  generalize Hn.startB a0 a1_0 a1_1 a1_2 a2 a3 = C at *
  generalize Hn.startO C a0 a1_0 a1_1 a1_2 a2 a3 = R at *
  have HZ : Hid (R.ol.length ≤ 1048576 ∧ R.sl.length ≤ 1048576) := ⟨by rw [hR.1]; simp, by rw [hR.2]; simp⟩
  have HE : Hid (∀ (x y : Hn.Pl) (W : World), Hn.In W x R → Hn.In W y R → _) := fun x y W h k => Hn.eqHand_same x y R W HZ.out.1 HZ.out.2 h k
  have hd : decide (1 + (R.ol.length : Int) + 6 * (R.sl.length : Int) < 0) = false := decide_eq_false (by omega)
  have hnb : (C != C) = false := by simp
  clear hR
  have N1 := Pk.new_below w (.cells #[.int .i64 a1_0, .int .i64 a1_1, .int .i64 a1_2] 27)
  have m2 := Pk.heap_new w (.cells #[.int .i64 a1_0, .int .i64 a1_1, .int .i64 a1_2] 27)
  have L4 := N1
  have hs5 : w.heap.size ≤ (w.alloc (.cells #[.int .i64 a1_0, .int .i64 a1_1, .int .i64 a1_2] 27)).heap.size := N1.size
  have hs6 := Pk.lt_of m2
  go_enter Try.func5, Try.ntmps5
  go_wp2_with fail
  refine (HT.out _).mono ?_
  generalize (w.alloc (.cells #[.int .i64 a1_0, .int .i64 a1_1, .int .i64 a1_2] 27)) = v0 at *
  rintro e v1 ⟨rfl, Lv1⟩
  have m7 := Pk.kept Lv1 (Pk.lt_of m2) m2
  clear m2
  have L8 := Pk.join_below L4 Lv1
  clear L4
  have hs9 : v0.heap.size ≤ v1.heap.size := Lv1.size
  go_wp2_with fail
  refine (HS.out _).mono ?_
  rintro e v2 ⟨yS, rfl, IS, Lv2⟩
  have m10 := Pk.kept Lv2 (Pk.lt_of m7) m7
  clear m7
  have L11 := Pk.join_below L8 Lv2
  clear L8
  have hs12 : v1.heap.size ≤ v2.heap.size := Lv2.size
  have HFS : Hid (∀ lo hi, v2.heap.size ≤ lo → Hn.Far lo hi yS R) := fun lo hi h => Hn.Far.of IS h
  have N13 := Pk.new_below v2 (Hn.hnB yS R 36)
  have m14 := Pk.heap_new v2 (Hn.hnB yS R 36)
  have m16 := Pk.kept N13 (Pk.lt_of m10) m10
  clear m10
  have i17 := IS.on N13
  clear IS
  have L18 := Pk.join_below L11 N13
  clear L11
  have hs19 : v2.heap.size ≤ (v2.alloc (Hn.hnB yS R 36)).heap.size := N13.size
  have hs20 := Pk.lt_of m14
  have c21 : (v2.alloc (Hn.hnB yS R 36)).cell? ⟨w.heap.size, 0, none⟩ = some (.int .i64 a1_0) := Pk.cell_at m16 0
  have c22 : (v2.alloc (Hn.hnB yS R 36)).cell? ⟨w.heap.size, 1, none⟩ = some (.int .i64 a1_1) := Pk.cell_at m16 1
  have c23 : (v2.alloc (Hn.hnB yS R 36)).cell? ⟨w.heap.size, 2, none⟩ = some (.int .i64 a1_2) := Pk.cell_at m16 2
  go_wp2_with fail
  refine (HT.out _).mono ?_
  clear c21 c22 c23
  generalize (v2.alloc (Hn.hnB yS R 36)) = v3 at *
  rintro e v4 ⟨rfl, Lv4⟩
  have m24 := Pk.kept Lv4 (Pk.lt_of m16) m16
  clear m16
  have m25 := Pk.kept Lv4 (Pk.lt_of m14) m14
  clear m14
  have i26 := i17.on Lv4
  clear i17
  have L27 := Pk.join_below L18 Lv4
  clear L18
  have hs28 : v3.heap.size ≤ v4.heap.size := Lv4.size
  go_wp2_with fail
  refine (HI.out _).mono ?_
  rintro e v5 ⟨yG, gG1, gG2, rfl, IG, MG, Lv5⟩
  have m29 := Pk.kept Lv5 (Pk.lt_of m24) m24
  clear m24
  have m30 := Pk.kept Lv5 (Pk.lt_of m25) m25
  clear m25
  have i31 := i26.on Lv5
  clear i26
  have L32 := Pk.join_below L27 Lv5
  clear L27
  have hs33 : v4.heap.size ≤ v5.heap.size := Lv5.size
  have HG1 : Hid (R.ol.length = 0 ∨ (yG.a = some ⟨gG1, 0, none⟩ ∧ gG1 < v5.heap.size)) := MG.off.imp_right fun h => ⟨h.1, h.2.1⟩
  have HG2 : Hid (R.sl.length = 0 ∨ (yG.b = some ⟨gG2, 0, none⟩ ∧ gG2 < v5.heap.size)) := MG.seen.imp_right fun h => ⟨h.1, h.2.1⟩
  have N34 := Pk.new_below v5 (Hn.hnB yG R 36)
  have m35 := Pk.heap_new v5 (Hn.hnB yG R 36)
  have m37 := Pk.kept N34 (Pk.lt_of m29) m29
  clear m29
  have m38 := Pk.kept N34 (Pk.lt_of m30) m30
  clear m30
  have i39 := i31.on N34
  clear i31
  have i40 := IG.on N34
  clear IG
  have i41 := MG.on N34
  clear MG
  have L42 := Pk.join_below L32 N34
  clear L32
  have hs43 : v5.heap.size ≤ (v5.alloc (Hn.hnB yG R 36)).heap.size := N34.size
  have hs44 := Pk.lt_of m35
  have c45 : (v5.alloc (Hn.hnB yG R 36)).cell? ⟨v2.heap.size, 0, none⟩ = some (.int .i64 R.dv) := Pk.cell_at m38 0
  have c46 : (v5.alloc (Hn.hnB yG R 36)).cell? ⟨v2.heap.size, 1, none⟩ = some (.int .i64 R.p) := Pk.cell_at m38 1
  have c47 : (v5.alloc (Hn.hnB yG R 36)).cell? ⟨v2.heap.size, 2, none⟩ = some (.int .i64 R.q) := Pk.cell_at m38 2
  have c48 : (v5.alloc (Hn.hnB yG R 36)).cell? ⟨v2.heap.size, 3, none⟩ = some (.int .i64 R.g) := Pk.cell_at m38 3
  have c49 : (v5.alloc (Hn.hnB yG R 36)).cell? ⟨v2.heap.size, 4, none⟩ = some (.int .i64 R.op) := Pk.cell_at m38 4
  have c50 : (v5.alloc (Hn.hnB yG R 36)).cell? ⟨v2.heap.size, 5, none⟩ = some (.int .i64 R.is) := Pk.cell_at m38 5
  have c51 : (v5.alloc (Hn.hnB yG R 36)).cell? ⟨v2.heap.size, 6, none⟩ = some (.int .i64 R.ve) := Pk.cell_at m38 6
  have c52 : (v5.alloc (Hn.hnB yG R 36)).cell? ⟨v2.heap.size, 7, none⟩ = some (.slice yS.a R.ol.length yS.c) := Pk.cell_at m38 7
  have c53 : (v5.alloc (Hn.hnB yG R 36)).cell? ⟨v2.heap.size, 8, none⟩ = some (.slice yS.b R.sl.length yS.d) := Pk.cell_at m38 8
  go_wp2_with fail
  refine (HE.out yG yS _ i40 i39).mono ?_
  clear c45 c46 c47 c48 c49 c50 c51 c52 c53
  generalize (v5.alloc (Hn.hnB yG R 36)) = v6 at *
  rintro e v7 ⟨rfl, Lv7⟩
  have m54 := Pk.kept Lv7 (Pk.lt_of m37) m37
  clear m37
  have m55 := Pk.kept Lv7 (Pk.lt_of m38) m38
  clear m38
  have m56 := Pk.kept Lv7 (Pk.lt_of m35) m35
  clear m35
  have i57 := i39.on Lv7
  clear i39
  have i58 := i40.on Lv7
  clear i40
  have i59 := i41.on Lv7
  clear i41
  have L60 := Pk.join_below L42 Lv7
  clear L42
  have hs61 : v6.heap.size ≤ v7.heap.size := Lv7.size
  have c62 : v7.cell? ⟨v5.heap.size, 0, none⟩ = some (.int .i64 R.dv) := Pk.cell_at m56 0
  have c63 : v7.cell? ⟨v5.heap.size, 1, none⟩ = some (.int .i64 R.p) := Pk.cell_at m56 1
  have c64 : v7.cell? ⟨v5.heap.size, 2, none⟩ = some (.int .i64 R.q) := Pk.cell_at m56 2
  have c65 : v7.cell? ⟨v5.heap.size, 3, none⟩ = some (.int .i64 R.g) := Pk.cell_at m56 3
  have c66 : v7.cell? ⟨v5.heap.size, 4, none⟩ = some (.int .i64 R.op) := Pk.cell_at m56 4
  have c67 : v7.cell? ⟨v5.heap.size, 5, none⟩ = some (.int .i64 R.is) := Pk.cell_at m56 5
  have c68 : v7.cell? ⟨v5.heap.size, 6, none⟩ = some (.int .i64 R.ve) := Pk.cell_at m56 6
  have c69 : v7.cell? ⟨v5.heap.size, 7, none⟩ = some (.slice yG.a R.ol.length yG.c) := Pk.cell_at m56 7
  have c70 : v7.cell? ⟨v5.heap.size, 8, none⟩ = some (.slice yG.b R.sl.length yG.d) := Pk.cell_at m56 8
  go_wp2_with fail
  refine (Hn.markHand_val yG R gG1 gG2 v4.heap.size v5.heap.size _ HZ.out.1 (by have := HZ.out.2; omega) i59 (HG1.out.imp_right fun h => h.2) (HG2.out.imp_right fun h => h.2)).mono ?_
  clear c62 c63 c64 c65 c66 c67 c68 c69 c70
  rintro e v8 ⟨rfl, Bv8, Kv8⟩
  clear i59 i58
  have m71 := (Bv8.block _ (Pk.lt_of m54) (by have := Pk.lt_of m54; omega)).trans m54
  clear m54
  have m72 := (Bv8.block _ (Pk.lt_of m55) (by have := Pk.lt_of m55; omega)).trans m55
  clear m55
  have m73 := (Bv8.block _ (Pk.lt_of m56) (by have := Pk.lt_of m56; omega)).trans m56
  clear m56
  have i74 := i57.brd Bv8 (HFS.out _ _ (by omega))
  clear i57
  have L75 := Bv8.below L60 (by omega) (by omega)
  clear L60
  have hs76 : v7.heap.size ≤ v8.heap.size := Bv8.size
  have c77 : v8.cell? ⟨v5.heap.size, 0, none⟩ = some (.int .i64 R.dv) := Pk.cell_at m73 0
  have c78 : v8.cell? ⟨v5.heap.size, 1, none⟩ = some (.int .i64 R.p) := Pk.cell_at m73 1
  have c79 : v8.cell? ⟨v5.heap.size, 2, none⟩ = some (.int .i64 R.q) := Pk.cell_at m73 2
  have c80 : v8.cell? ⟨v5.heap.size, 3, none⟩ = some (.int .i64 R.g) := Pk.cell_at m73 3
  have c81 : v8.cell? ⟨v5.heap.size, 4, none⟩ = some (.int .i64 R.op) := Pk.cell_at m73 4
  have c82 : v8.cell? ⟨v5.heap.size, 5, none⟩ = some (.int .i64 R.is) := Pk.cell_at m73 5
  have c83 : v8.cell? ⟨v5.heap.size, 6, none⟩ = some (.int .i64 R.ve) := Pk.cell_at m73 6
  have c84 : v8.cell? ⟨v5.heap.size, 7, none⟩ = some (.slice yG.a R.ol.length yG.c) := Pk.cell_at m73 7
  have c85 : v8.cell? ⟨v5.heap.size, 8, none⟩ = some (.slice yG.b R.sl.length yG.d) := Pk.cell_at m73 8
  go_wp2_with fail
  refine (Hn.heldHand_val yG R gG1 gG2 _ HZ.out.1 (by have := HZ.out.2; omega) (HG1.out.imp_right fun h => h.1) (HG2.out.imp_right fun h => h.1) Kv8).mono ?_
  clear c77 c78 c79 c80 c81 c82 c83 c84 c85
  rintro e v8h ⟨rfl, Lv8h⟩
  have m86 := Pk.kept Lv8h (Pk.lt_of m71) m71
  clear m71
  have m87 := Pk.kept Lv8h (Pk.lt_of m72) m72
  clear m72
  have m88 := Pk.kept Lv8h (Pk.lt_of m73) m73
  clear m73
  have i89 := i74.on Lv8h
  clear i74
  have i90 := Kv8.on Lv8h
  clear Kv8
  have L91 := Pk.join_below L75 Lv8h
  clear L75
  have hs92 : v8.heap.size ≤ v8h.heap.size := Lv8h.size
  have c93 : v8h.cell? ⟨w.heap.size, 0, none⟩ = some (.int .i64 a1_0) := Pk.cell_at m86 0
  have c94 : v8h.cell? ⟨w.heap.size, 1, none⟩ = some (.int .i64 a1_1) := Pk.cell_at m86 1
  have c95 : v8h.cell? ⟨w.heap.size, 2, none⟩ = some (.int .i64 a1_2) := Pk.cell_at m86 2
  go_wp2_with fail
  refine (HT.out _).mono ?_
  clear c93 c94 c95
  rintro e v10 ⟨rfl, Lv10⟩
  have m96 := Pk.kept Lv10 (Pk.lt_of m86) m86
  clear m86
  have m97 := Pk.kept Lv10 (Pk.lt_of m87) m87
  clear m87
  have m98 := Pk.kept Lv10 (Pk.lt_of m88) m88
  clear m88
  have i99 := i89.on Lv10
  clear i89
  have i100 := i90.on Lv10
  clear i90
  have L101 := Pk.join_below L91 Lv10
  clear L91
  have hs102 : v8h.heap.size ≤ v10.heap.size := Lv10.size
  go_wp2_with fail
  refine (HI.out _).mono ?_
  rintro e v11 ⟨yH, gH1, gH2, rfl, IH, -, Lv11⟩
  have m103 := Pk.kept Lv11 (Pk.lt_of m96) m96
  clear m96
  have m104 := Pk.kept Lv11 (Pk.lt_of m97) m97
  clear m97
  have m105 := Pk.kept Lv11 (Pk.lt_of m98) m98
  clear m98
  have i106 := i99.on Lv11
  clear i99
  have i107 := i100.on Lv11
  clear i100
  have L108 := Pk.join_below L101 Lv11
  clear L101
  have hs109 : v10.heap.size ≤ v11.heap.size := Lv11.size
  have N110 := Pk.new_below v11 (Hn.hnB yH R 36)
  have m111 := Pk.heap_new v11 (Hn.hnB yH R 36)
  have m113 := Pk.kept N110 (Pk.lt_of m103) m103
  clear m103
  have m114 := Pk.kept N110 (Pk.lt_of m104) m104
  clear m104
  have m115 := Pk.kept N110 (Pk.lt_of m105) m105
  clear m105
  have i116 := i106.on N110
  clear i106
  have i117 := IH.on N110
  clear IH
  have i118 := i107.on N110
  clear i107
  have L119 := Pk.join_below L108 N110
  clear L108
  have hs120 : v11.heap.size ≤ (v11.alloc (Hn.hnB yH R 36)).heap.size := N110.size
  have hs121 := Pk.lt_of m111
  have c122 : (v11.alloc (Hn.hnB yH R 36)).cell? ⟨v2.heap.size, 0, none⟩ = some (.int .i64 R.dv) := Pk.cell_at m114 0
  have c123 : (v11.alloc (Hn.hnB yH R 36)).cell? ⟨v2.heap.size, 1, none⟩ = some (.int .i64 R.p) := Pk.cell_at m114 1
  have c124 : (v11.alloc (Hn.hnB yH R 36)).cell? ⟨v2.heap.size, 2, none⟩ = some (.int .i64 R.q) := Pk.cell_at m114 2
  have c125 : (v11.alloc (Hn.hnB yH R 36)).cell? ⟨v2.heap.size, 3, none⟩ = some (.int .i64 R.g) := Pk.cell_at m114 3
  have c126 : (v11.alloc (Hn.hnB yH R 36)).cell? ⟨v2.heap.size, 4, none⟩ = some (.int .i64 R.op) := Pk.cell_at m114 4
  have c127 : (v11.alloc (Hn.hnB yH R 36)).cell? ⟨v2.heap.size, 5, none⟩ = some (.int .i64 R.is) := Pk.cell_at m114 5
  have c128 : (v11.alloc (Hn.hnB yH R 36)).cell? ⟨v2.heap.size, 6, none⟩ = some (.int .i64 R.ve) := Pk.cell_at m114 6
  have c129 : (v11.alloc (Hn.hnB yH R 36)).cell? ⟨v2.heap.size, 7, none⟩ = some (.slice yS.a R.ol.length yS.c) := Pk.cell_at m114 7
  have c130 : (v11.alloc (Hn.hnB yH R 36)).cell? ⟨v2.heap.size, 8, none⟩ = some (.slice yS.b R.sl.length yS.d) := Pk.cell_at m114 8
  go_wp2_with fail
  refine (HE.out yH yS _ i117 i116).mono ?_
  clear c122 c123 c124 c125 c126 c127 c128 c129 c130
  generalize (v11.alloc (Hn.hnB yH R 36)) = v12 at *
  rintro e v13 ⟨rfl, Lv13⟩
  have m131 := Pk.kept Lv13 (Pk.lt_of m113) m113
  clear m113
  have m132 := Pk.kept Lv13 (Pk.lt_of m114) m114
  clear m114
  have m133 := Pk.kept Lv13 (Pk.lt_of m115) m115
  clear m115
  have m134 := Pk.kept Lv13 (Pk.lt_of m111) m111
  clear m111
  have i135 := i116.on Lv13
  clear i116
  have i136 := i117.on Lv13
  clear i117
  have i137 := i118.on Lv13
  clear i118
  have L138 := Pk.join_below L119 Lv13
  clear L119
  have hs139 : v12.heap.size ≤ v13.heap.size := Lv13.size
  have c140 : v13.cell? ⟨v5.heap.size, 0, none⟩ = some (.int .i64 R.dv) := Pk.cell_at m133 0
  have c141 : v13.cell? ⟨v5.heap.size, 1, none⟩ = some (.int .i64 R.p) := Pk.cell_at m133 1
  have c142 : v13.cell? ⟨v5.heap.size, 2, none⟩ = some (.int .i64 R.q) := Pk.cell_at m133 2
  have c143 : v13.cell? ⟨v5.heap.size, 3, none⟩ = some (.int .i64 R.g) := Pk.cell_at m133 3
  have c144 : v13.cell? ⟨v5.heap.size, 4, none⟩ = some (.int .i64 R.op) := Pk.cell_at m133 4
  have c145 : v13.cell? ⟨v5.heap.size, 5, none⟩ = some (.int .i64 R.is) := Pk.cell_at m133 5
  have c146 : v13.cell? ⟨v5.heap.size, 6, none⟩ = some (.int .i64 R.ve) := Pk.cell_at m133 6
  have c147 : v13.cell? ⟨v5.heap.size, 7, none⟩ = some (.slice yG.a R.ol.length yG.c) := Pk.cell_at m133 7
  have c148 : v13.cell? ⟨v5.heap.size, 8, none⟩ = some (.slice yG.b R.sl.length yG.d) := Pk.cell_at m133 8
  go_wp2_with fail
  refine (Hn.heldHand_val yG R gG1 gG2 _ HZ.out.1 (by have := HZ.out.2; omega) (HG1.out.imp_right fun h => h.1) (HG2.out.imp_right fun h => h.1) i137).mono ?_
  clear c140 c141 c142 c143 c144 c145 c146 c147 c148
  rintro e v14 ⟨rfl, Lv14⟩
  have m149 := Pk.kept Lv14 (Pk.lt_of m131) m131
  clear m131
  have m150 := Pk.kept Lv14 (Pk.lt_of m132) m132
  clear m132
  have m151 := Pk.kept Lv14 (Pk.lt_of m133) m133
  clear m133
  have m152 := Pk.kept Lv14 (Pk.lt_of m134) m134
  clear m134
  have i153 := i135.on Lv14
  clear i135
  have i154 := i136.on Lv14
  clear i136
  have i155 := i137.on Lv14
  clear i137
  have L156 := Pk.join_below L138 Lv14
  clear L138
  have hs157 : v13.heap.size ≤ v14.heap.size := Lv14.size
  go_wp2
  go_ret
  exact ⟨rfl, L156⟩

set_option maxRecDepth 100000 in
theorem contract (H : Type) (enc : TypeId × Value → H) (W : World) (base : Nat) (args : Array Value) (ds gs : List (DataW H)) (before : List MemPlace)
    (hval : ∀ (j : Nat) t v, Try.f5.params[j]? = some t → args[j]? = some v → Value.okWide Try.prog W .any base t v)
    (hW : DataW.Whole enc Try.prog Try.f5.params.toList Rows.fnExactHandStartSpec.vars false W args.toList ds gs before) :
    Calls Try.prog 5 args W fun e W' => ∃ v, e = .returned v ∧ Rows.fnExactHandStartSpec.post enc Try.prog Try.f5 false true false false W args v W' := by
  have hW' := hW
  obtain ⟨p, q, hA0, hV, rfl, hfz, hnd⟩ := hW
  have hA : DataW.TrodAll enc Try.prog W 0 (fun _ => true) true Try.f5.params.toList args.toList ds p := hA0
  rw [Try.params5] at hA hval
  obtain ⟨v0, vs0, d0, ds0, p0, q0, hargs, rfl, rfl, h0, r0⟩ := trodAll_cons hA
  obtain ⟨v1, vs1, d1, ds1, p1, q1, rfl, rfl, rfl, h1, r1⟩ := trodAll_cons r0
  obtain ⟨v2, vs2, d2, ds2, p2, q2, rfl, rfl, rfl, h2, r2⟩ := trodAll_cons r1
  obtain ⟨v3, vs3, d3, ds3, p3, q3, rfl, rfl, rfl, h3, r3⟩ := trodAll_cons r2
  obtain ⟨rfl, rfl, rfl⟩ := trodAll_nil r3
  obtain rfl : args = #[v0, v1, v2, v3] := by cases args; simp_all
  obtain ⟨rfl, rfl⟩ := trodVars_none hV
  have k0 := h0
  have lt0 : ∀ x ∈ p0, x.block < W.heap.size := by obtain ⟨m, hm⟩ := k0; exact DataW.trod_lt m _ _ _ hm
  obtain ⟨a0, rfl, rfl, rfl, w0⟩ := open_int Try.underlying3 (hval 0 3 v0 rfl rfl) h0
  have k1 := h1
  have lt1 : ∀ x ∈ p1, x.block < W.heap.size := by obtain ⟨m, hm⟩ := k1; exact DataW.trod_lt m _ _ _ hm
  obtain ⟨c1_0, c1_1, c1_2, y1_0, y1_1, y1_2, m1, rfl, rfl, rfl, hy1_0, hy1_1, hy1_2⟩ := open_agg3 Try.underlying27 (by kernel_rfl) (by kernel_rfl) (hval 1 27 v1 rfl rfl) h1
  obtain ⟨a1_0, e1_0, rfl, w1_0⟩ := DataW.trod_int Try.underlying3 hy1_0
  obtain ⟨a1_1, e1_1, rfl, w1_1⟩ := DataW.trod_int Try.underlying3 hy1_1
  obtain ⟨a1_2, e1_2, rfl, w1_2⟩ := DataW.trod_int Try.underlying3 hy1_2
  simp at e1_0 e1_1 e1_2
  subst e1_0 e1_1 e1_2
  have k2 := h2
  have lt2 : ∀ x ∈ p2, x.block < W.heap.size := by obtain ⟨m, hm⟩ := k2; exact DataW.trod_lt m _ _ _ hm
  obtain ⟨a2, rfl, rfl, rfl, w2⟩ := open_int Try.underlying3 (hval 2 3 v2 rfl rfl) h2
  have k3 := h3
  have lt3 : ∀ x ∈ p3, x.block < W.heap.size := by obtain ⟨m, hm⟩ := k3; exact DataW.trod_lt m _ _ _ hm
  obtain ⟨a3, rfl, rfl, rfl, w3⟩ := open_int Try.underlying3 (hval 3 3 v3 rfl rfl) h3
  clear hA0
  refine (walk a0 w0 a1_0 w1_0 a1_1 w1_1 a1_2 w1_2 a2 w2 a3 w3 W   ).mono fun e W' ⟨he, bel⟩ => ?_
  subst he
  exact ⟨_, rfl, _, _, _, [], _, [], hW', trodAll_mk1 (shut_bool Try.underlying4 _), (trodAll_cons_mk (Below.trod Errs.laidOut (by kernel_rfl) (of_decide_eq_true (by kernel_rfl)) k0 bel lt0) (trodAll_cons_mk (Below.trod Errs.laidOut (by kernel_rfl) (of_decide_eq_true (by kernel_rfl)) k1 bel lt1) (trodAll_cons_mk (Below.trod Errs.laidOut (by kernel_rfl) (of_decide_eq_true (by kernel_rfl)) k2 bel lt2) (trodAll_cons_mk (Below.trod Errs.laidOut (by kernel_rfl) (of_decide_eq_true (by kernel_rfl)) k3 bel lt3) trodAll_mk0)))), rfl, bel.frame _, fun h => by cases h⟩

set_option maxRecDepth 100000 in
theorem lifted (os : Os) (started : os.Started) (H : Type) (enc : TypeId × Value → H) :
    ReturnsInHanded {} Try.checked os 5 .any (Rows.fnExactHandStartSpec.pre6 enc Try.prog Try.f5 Rows.fnExactHandStartRow.domain false) (Rows.fnExactHandStartSpec.post enc Try.prog Try.f5 false true false false) := by
  refine returnsInHanded_of_change (C := Try.checked) Errs.own started (by kernel_rfl) Try.func5
    (ChangeSpec.witness6 (enc := enc) (C := Try.checked) false ⟨#[], #[.int .i64 0, .agg #[.int .i64 0, .int .i64 0, .int .i64 0], .int .i64 0, .int .i64 0], []⟩ 8 (by kernel_rfl) (by kernel_rfl) (by kernel_rfl) (by kernel_rfl)) ?_
  intro W base args ds gs before hval hW _ _
  exact contract H enc W base args ds gs before hval hW

set_option maxRecDepth 100000 in
theorem over : Rows.fnExactHandStartRow.holds Try.pinned (OpenSpec.ofChange Rows.fnExactHandStartSpec) :=
  OpenClaim.holds_of_wide 5 Try.f5 rfl rfl rfl rfl rfl rfl rfl ⟨rfl, rfl, rfl, rfl, rfl⟩ rfl rfl rfl rfl rfl (by kernel_rfl) Try.func5 (by kernel_rfl)
    (of_decide_eq_true (by kernel_rfl)) (by unfold Func.isWrapper; first | (rw [if_pos (by decide +kernel)]; kernel_rfl) | (rw [if_neg (by decide +kernel)]; exact ⟨rfl, rfl⟩))
    (fun os started H enc _ => lifted os started H enc)
end Go.Proofs.Ytlgolnddhfadeaa.fnExactHandStart
namespace Go.Proofs.Ytlgolnddhfadeaa
theorem FnExactHandStart_holds : Rows.FnExactHandStartSaid := fnExactHandStart.over
end Go.Proofs.Ytlgolnddhfadeaa
