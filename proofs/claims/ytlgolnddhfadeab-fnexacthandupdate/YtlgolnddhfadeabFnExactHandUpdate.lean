/- For every device, version and list the law of HandUpdate answers true: the program's HandUpdate and its model return the same device and the same verdict, the program's in memory of its own; nothing of what came in is turned, and a further call leaves the first answer as it was. No condition. -/
import Derived.Test.YtlgolnddhfadeabErrs
import Derived.ShutString
import Derived.Lib.SmallJoins
import Derived.Test.YtlgolnddhfadeabHnUpdS
import Derived.Deep.Cut
import Derived.Test.YtlgolnddhfadeabHnTo
import Derived.Test.YtlgolnddhfadeabHnIn
namespace Go.Proofs.Ytlgolnddhfadeab.fnExactHandUpdate
open Go.ChangeShapes Go.WideShapes Go.ChangeAt Go.RowKit Go.Joins
open Go.ChangeMaps (open_string shut_string)
set_option linter.unusedVariables false
set_option linter.unusedSimpArgs false

def IsRow (k : IntKind) (w : World) (a : Option Addr) (len cap : Nat) (zs : List Int) : Prop :=
  (a = none ∧ len = 0 ∧ cap = 0 ∧ zs = []) ∨
  ∃ x, a = some x ∧ len ≤ cap ∧ cap ≤ maxLen ∧ zs.length = cap ∧ (∀ i, i < zs.length → w.cell? (x.add i) = some (.int k (zs.getD i 0))) ∧ ∀ n ∈ zs, (Lit.int k n).wf = true

theorem far_mine {lo hi lo' : Nat} {w : World} {x : Hn.Pl} {o : Hn.Hnd} {g1 g2 : Nat} (h : Hn.Mine lo' w x o g1 g2) (hh : hi ≤ lo') : Hn.Far lo hi x o :=
  Hn.Far.mine (hi := hi) ⟨h.ne, Nat.le_trans hh h.lo1, Nat.le_trans hh h.lo2, h.off, h.seen⟩

theorem far_ints {lo hi g : Nat} {zs : List Int} (h : g < lo ∨ hi ≤ g) : ∀ b o, (some ⟨g, 0, none⟩ : Option Addr) = some ⟨b, o, none⟩ → zs ≠ [] → b < lo ∨ hi ≤ b := by
  intro b o e _
  simp only [Option.some.injEq, Addr.mk.injEq] at e
  omega


set_option maxRecDepth 100000 in
set_option maxHeartbeats 8000000 in
theorem walk (x0 : Hn.Pl) (o0 : Hn.Hnd) (a1 : Int) (w1 : (Lit.int .i64 a1).wf = true) (a2 : Option Addr) (len2 cap2 : Nat) (z2 : List Int) (w : World) (w0 : Hn.In w x0 o0 ∧ Hn.Lim o0) (w2 : IsRow .i64 w a2 len2 cap2 z2)   :
    Calls Try.prog 3 #[Hn.hnV x0 o0, .int .i64 a1, .slice a2 len2 cap2] w fun e w' => e = .returned (.bool true) ∧ Below w.heap.size w w' := by
  obtain ⟨I, LM⟩ := w0
  have hm1 : o0.ol.length ≤ maxLen := LM.ol
  have hm2 : o0.sl.length ≤ maxLen := LM.sl
  have HM : Hid (o0.ol.length ≤ maxLen ∧ o0.sl.length ≤ maxLen) := ⟨hm1, hm2⟩
  clear LM hm1 hm2
  obtain ⟨ys, hlen, J, hm⟩ : ∃ ys : List Int, ys.length = len2 ∧ Hn.Ints w a2 ys ∧ ys.length ≤ maxLen := by
    rcases w2 with ⟨rfl, rfl, rfl, rfl⟩ | ⟨x, rfl, h1, h2, h3, h4, -⟩
    · exact ⟨[], rfl, Or.inl rfl, by simp⟩
    · obtain ⟨ys, e, I⟩ := Hn.ints_row (len := len2) (by omega) h4
      exact ⟨ys, e, I, by omega⟩
  subst hlen
  clear w2 hm
  by_cases hb2 : ys.length ≤ 1048576
  · have hdl : decide ((1048576 : Int) < (ys.length : Int)) = false := decide_eq_false (by omega)
    have HTI : Hid (∀ (W : World), Hn.Ints W a2 ys → _) := fun W h => Hn.toIntS_val a2 ys cap2 W hb2 h
    have HEI : Hid (∀ (a b : Option Addr) (c1 c2 : Nat) (W : World), Hn.Ints W a ys → Hn.Ints W b ys → _) := fun a b c1 c2 W h k => Hn.eqIntS_same a b ys c1 c2 W hb2 h k
    by_cases hb : (o0.ol.length : Int) + (o0.sl.length : Int) ≤ 1048576
    · have hz : o0.ol.length ≤ 1048576 := by omega
      have hz2 : o0.sl.length ≤ 1048576 := by omega
      have hd0 : decide (1048576 - (o0.ol.length : Int) - (o0.sl.length : Int) < 0) = false := decide_eq_false (by omega)
      have HTO : Hid (∀ (W : World), Hn.In W x0 o0 → _) := fun W h => Hn.toHand_val x0 o0 W hz hz2 h
      have HEO : Hid (∀ (x y : Hn.Pl) (W : World), Hn.In W x o0 → Hn.In W y o0 → _) := fun x y W h k => Hn.eqHand_same x y o0 W hz hz2 h k
      have HSZ : Hid (∀ (W : World), _) := fun W => Hn.szHand_yes x0 o0 1048576 W (by omega) hb
      have HZO : Hid (o0.ol.length ≤ 1048576 ∧ o0.sl.length ≤ 1048576) := ⟨hz, hz2⟩
      have HS : Hid (∀ (x : Hn.Pl) (b u cap : Nat) (W : World), Hn.In W x o0 → Hn.Flat x → Hn.Ints W (some ⟨b, u, none⟩) ys → _) := fun x b u cap W h f k => Hn.specUpd_val x o0 a1 b u ys cap W hz hz2 hb2 h f k
      have HI : Hid (∀ (x : Hn.Pl) (b u cap : Nat) (W : World), Hn.In W x o0 → Hn.Flat x → Hn.Ints W (some ⟨b, u, none⟩) ys → _) := fun x b u cap W h f k => Hn.implUpd_val x o0 a1 b u ys cap W hz hz2 hb2 h f k
      have HZ : Hid ((Hn.updO (Hn.updB o0 a1 ys) o0 a1 ys).ol.length ≤ 1048576 ∧ (Hn.updO (Hn.updB o0 a1 ys) o0 a1 ys).sl.length ≤ 1048576) := by
        cases Hn.updB o0 a1 ys
        · exact ⟨hz, hz2⟩
        · exact ⟨hb2, hz2⟩
      generalize Hn.updB o0 a1 ys = C at *
      generalize Hn.updO C o0 a1 ys = R at *
      have HE : Hid (∀ (x y : Hn.Pl) (W : World), Hn.In W x R → Hn.In W y R → _) := fun x y W h k => Hn.eqHand_same x y R W HZ.out.1 HZ.out.2 h k
      have hd : decide (1 + (R.ol.length : Int) + 6 * (R.sl.length : Int) < 0) = false := decide_eq_false (by omega)
      have hdk : decide (1 + (o0.ol.length : Int) + 6 * (o0.sl.length : Int) + (ys.length : Int) < 0) = false := decide_eq_false (by omega)
      have HKB : Hid (1 + (o0.ol.length : Int) + 6 * (o0.sl.length : Int) ≤ 1152921504606846976) := by show _ ≤ _; omega
      have HYS : Hid (ys.length ≤ 1048576) := hb2
      have hnb : (C != C) = false := by simp
      clear hz hz2 hb hb2 HM
      have N1 := Pk.new_below w (Hn.hnB x0 o0 27)
      have m2 := Pk.heap_new w (Hn.hnB x0 o0 27)
      have L4 := N1
      have hs5 : w.heap.size ≤ (w.alloc (Hn.hnB x0 o0 27)).heap.size := N1.size
      have hs6 := Pk.lt_of m2
      go_enter Try.func3, Try.ntmps3
      go_wp2_with fail
      refine (HSZ.out _).mono ?_
      generalize (w.alloc (Hn.hnB x0 o0 27)) = v0 at *
      rintro e v1 ⟨rfl, Lv1⟩
      have m7 := Pk.kept Lv1 (Pk.lt_of m2) m2
      clear m2
      have L8 := Pk.join_below L4 Lv1
      clear L4
      have hs9 : v0.heap.size ≤ v1.heap.size := Lv1.size
      have c10 : v1.cell? ⟨w.heap.size, 0, none⟩ = some (.int .i64 o0.dv) := Pk.cell_at m7 0
      have c11 : v1.cell? ⟨w.heap.size, 1, none⟩ = some (.int .i64 o0.p) := Pk.cell_at m7 1
      have c12 : v1.cell? ⟨w.heap.size, 2, none⟩ = some (.int .i64 o0.q) := Pk.cell_at m7 2
      have c13 : v1.cell? ⟨w.heap.size, 3, none⟩ = some (.int .i64 o0.g) := Pk.cell_at m7 3
      have c14 : v1.cell? ⟨w.heap.size, 4, none⟩ = some (.int .i64 o0.op) := Pk.cell_at m7 4
      have c15 : v1.cell? ⟨w.heap.size, 5, none⟩ = some (.int .i64 o0.is) := Pk.cell_at m7 5
      have c16 : v1.cell? ⟨w.heap.size, 6, none⟩ = some (.int .i64 o0.ve) := Pk.cell_at m7 6
      have c17 : v1.cell? ⟨w.heap.size, 7, none⟩ = some (.slice x0.a o0.ol.length x0.c) := Pk.cell_at m7 7
      have c18 : v1.cell? ⟨w.heap.size, 8, none⟩ = some (.slice x0.b o0.sl.length x0.d) := Pk.cell_at m7 8
      go_wp2_with fail
      refine (HTO.out _ (I.on L8)).mono ?_
      clear c10 c11 c12 c13 c14 c15 c16 c17 c18
      rintro e v2 ⟨yA, yA1, yA2, rfl, Lv2, IyA, MyA, yAa, yAb, yAc, yAd⟩
      have m19 := Pk.kept Lv2 (Pk.lt_of m7) m7
      clear m7
      have L20 := Pk.join_below L8 Lv2
      clear L8
      have hs21 : v1.heap.size ≤ v2.heap.size := Lv2.size
      have FyA : Hid (Hn.Flat yA) := ⟨⟨_, _, yAc⟩, ⟨_, _, yAd⟩⟩
      clear MyA yAa yAb yAc yAd
      go_wp2_with fail
      refine (HTI.out _ (J.on L20)).mono ?_
      rintro e v3 ⟨rfl, Lv3, IA2, -, -⟩
      have m22 := Pk.kept Lv3 (Pk.lt_of m19) m19
      clear m19
      have i23 := IyA.on Lv3
      clear IyA
      have L24 := Pk.join_below L20 Lv3
      clear L20
      have hs25 : v2.heap.size ≤ v3.heap.size := Lv3.size
      go_wp2_with fail
      refine (HS.out yA _ _ _ _ i23 FyA.out IA2).mono ?_
      rintro e v4 ⟨yS, rfl, CS, Lv4⟩
      clear i23 IA2
      have m26 := Pk.kept Lv4 (Pk.lt_of m22) m22
      clear m22
      have L27 := Pk.join_below L24 Lv4
      clear L24
      have hs28 : v3.heap.size ≤ v4.heap.size := Lv4.size
      have IS := CS.in
      clear CS
      have HFS : Hid (∀ lo hi, v4.heap.size ≤ lo → Hn.Far lo hi yS R) := fun lo hi h => Hn.Far.of IS h
      have N29 := Pk.new_below v4 (Hn.hnB yS R 32)
      have m30 := Pk.heap_new v4 (Hn.hnB yS R 32)
      have m32 := Pk.kept N29 (Pk.lt_of m26) m26
      clear m26
      have i33 := IS.on N29
      clear IS
      have L34 := Pk.join_below L27 N29
      clear L27
      have hs35 : v4.heap.size ≤ (v4.alloc (Hn.hnB yS R 32)).heap.size := N29.size
      have hs36 := Pk.lt_of m30
      have c37 : (v4.alloc (Hn.hnB yS R 32)).cell? ⟨w.heap.size, 0, none⟩ = some (.int .i64 o0.dv) := Pk.cell_at m32 0
      have c38 : (v4.alloc (Hn.hnB yS R 32)).cell? ⟨w.heap.size, 1, none⟩ = some (.int .i64 o0.p) := Pk.cell_at m32 1
      have c39 : (v4.alloc (Hn.hnB yS R 32)).cell? ⟨w.heap.size, 2, none⟩ = some (.int .i64 o0.q) := Pk.cell_at m32 2
      have c40 : (v4.alloc (Hn.hnB yS R 32)).cell? ⟨w.heap.size, 3, none⟩ = some (.int .i64 o0.g) := Pk.cell_at m32 3
      have c41 : (v4.alloc (Hn.hnB yS R 32)).cell? ⟨w.heap.size, 4, none⟩ = some (.int .i64 o0.op) := Pk.cell_at m32 4
      have c42 : (v4.alloc (Hn.hnB yS R 32)).cell? ⟨w.heap.size, 5, none⟩ = some (.int .i64 o0.is) := Pk.cell_at m32 5
      have c43 : (v4.alloc (Hn.hnB yS R 32)).cell? ⟨w.heap.size, 6, none⟩ = some (.int .i64 o0.ve) := Pk.cell_at m32 6
      have c44 : (v4.alloc (Hn.hnB yS R 32)).cell? ⟨w.heap.size, 7, none⟩ = some (.slice x0.a o0.ol.length x0.c) := Pk.cell_at m32 7
      have c45 : (v4.alloc (Hn.hnB yS R 32)).cell? ⟨w.heap.size, 8, none⟩ = some (.slice x0.b o0.sl.length x0.d) := Pk.cell_at m32 8
      go_wp2_with fail
      refine (HTO.out _ (I.on L34)).mono ?_
      clear c37 c38 c39 c40 c41 c42 c43 c44 c45
      generalize (v4.alloc (Hn.hnB yS R 32)) = v5 at *
      rintro e v6 ⟨yX, yX1, yX2, rfl, Lv6, IyX, MyX, yXa, yXb, yXc, yXd⟩
      have m46 := Pk.kept Lv6 (Pk.lt_of m32) m32
      clear m32
      have m47 := Pk.kept Lv6 (Pk.lt_of m30) m30
      clear m30
      have i48 := i33.on Lv6
      clear i33
      have L49 := Pk.join_below L34 Lv6
      clear L34
      have hs50 : v5.heap.size ≤ v6.heap.size := Lv6.size
      have FyX : Hid (Hn.Flat yX) := ⟨⟨_, _, yXc⟩, ⟨_, _, yXd⟩⟩
      clear yXc yXd
      have N51 := Pk.new_below v6 (Hn.hnB yX o0 32)
      have m52 := Pk.heap_new v6 (Hn.hnB yX o0 32)
      have m54 := Pk.kept N51 (Pk.lt_of m46) m46
      clear m46
      have m55 := Pk.kept N51 (Pk.lt_of m47) m47
      clear m47
      have i56 := i48.on N51
      clear i48
      have i57 := IyX.on N51
      clear IyX
      have i58 := MyX.on N51
      clear MyX
      have L59 := Pk.join_below L49 N51
      clear L49
      have hs60 : v6.heap.size ≤ (v6.alloc (Hn.hnB yX o0 32)).heap.size := N51.size
      have hs61 := Pk.lt_of m52
      go_wp2_with fail
      refine (HTI.out _ (J.on L59)).mono ?_
      generalize (v6.alloc (Hn.hnB yX o0 32)) = v7 at *
      rintro e v8 ⟨rfl, Lv8, I2, h2s, R2⟩
      have m62 := Pk.kept Lv8 (Pk.lt_of m54) m54
      clear m54
      have m63 := Pk.kept Lv8 (Pk.lt_of m55) m55
      clear m55
      have m64 := Pk.kept Lv8 (Pk.lt_of m52) m52
      clear m52
      have i65 := i56.on Lv8
      clear i56
      have i66 := i57.on Lv8
      clear i57
      have i67 := i58.on Lv8
      clear i58
      have L68 := Pk.join_below L59 Lv8
      clear L59
      have hs69 : v7.heap.size ≤ v8.heap.size := Lv8.size
      have c70 : v8.cell? ⟨v6.heap.size, 0, none⟩ = some (.int .i64 o0.dv) := Pk.cell_at m64 0
      have c71 : v8.cell? ⟨v6.heap.size, 1, none⟩ = some (.int .i64 o0.p) := Pk.cell_at m64 1
      have c72 : v8.cell? ⟨v6.heap.size, 2, none⟩ = some (.int .i64 o0.q) := Pk.cell_at m64 2
      have c73 : v8.cell? ⟨v6.heap.size, 3, none⟩ = some (.int .i64 o0.g) := Pk.cell_at m64 3
      have c74 : v8.cell? ⟨v6.heap.size, 4, none⟩ = some (.int .i64 o0.op) := Pk.cell_at m64 4
      have c75 : v8.cell? ⟨v6.heap.size, 5, none⟩ = some (.int .i64 o0.is) := Pk.cell_at m64 5
      have c76 : v8.cell? ⟨v6.heap.size, 6, none⟩ = some (.int .i64 o0.ve) := Pk.cell_at m64 6
      have c77 : v8.cell? ⟨v6.heap.size, 7, none⟩ = some (.slice yX.a o0.ol.length yX.c) := Pk.cell_at m64 7
      have c78 : v8.cell? ⟨v6.heap.size, 8, none⟩ = some (.slice yX.b o0.sl.length yX.d) := Pk.cell_at m64 8
      go_wp2_with fail
      refine (HI.out yX _ _ _ _ i66 FyX.out I2).mono ?_
      clear c70 c71 c72 c73 c74 c75 c76 c77 c78
      rintro e v9 ⟨yG, rfl, CG, Lv9⟩
      have m79 := Pk.kept Lv9 (Pk.lt_of m62) m62
      clear m62
      have m80 := Pk.kept Lv9 (Pk.lt_of m63) m63
      clear m63
      have m81 := Pk.kept Lv9 (Pk.lt_of m64) m64
      clear m64
      have i82 := i65.on Lv9
      clear i65
      have i83 := i66.on Lv9
      clear i66
      have i84 := i67.on Lv9
      clear i67
      have q85 := I2.on Lv9
      clear I2
      have q86 := Pk.Room.on R2 Lv9 (by omega)
      clear R2
      have L87 := Pk.join_below L68 Lv9
      clear L68
      have hs88 : v8.heap.size ≤ v9.heap.size := Lv9.size
      have IG := CG.in
      obtain ⟨gG1, gG2, MG⟩ := CG.mine
      clear CG
      have HG1 : Hid (R.ol.length = 0 ∨ (yG.a = some ⟨gG1, 0, none⟩ ∧ gG1 < v9.heap.size)) := MG.off.imp_right fun h => ⟨h.1, h.2.1⟩
      have HG2 : Hid (R.sl.length = 0 ∨ (yG.b = some ⟨gG2, 0, none⟩ ∧ gG2 < v9.heap.size)) := MG.seen.imp_right fun h => ⟨h.1, h.2.1⟩
      have HFG : Hid (∀ lo hi, hi ≤ v8.heap.size → Hn.Far lo hi yG R) := fun lo hi h => far_mine MG h
      have N89 := Pk.new_below v9 (Hn.hnB yG R 32)
      have m90 := Pk.heap_new v9 (Hn.hnB yG R 32)
      have m92 := Pk.kept N89 (Pk.lt_of m79) m79
      clear m79
      have m93 := Pk.kept N89 (Pk.lt_of m80) m80
      clear m80
      have m94 := Pk.kept N89 (Pk.lt_of m81) m81
      clear m81
      have i95 := i82.on N89
      clear i82
      have i96 := i83.on N89
      clear i83
      have i97 := IG.on N89
      clear IG
      have i98 := i84.on N89
      clear i84
      have i99 := MG.on N89
      clear MG
      have q100 := q85.on N89
      clear q85
      have q101 := Pk.Room.on q86 N89 (by omega)
      clear q86
      have L102 := Pk.join_below L87 N89
      clear L87
      have hs103 : v9.heap.size ≤ (v9.alloc (Hn.hnB yG R 32)).heap.size := N89.size
      have hs104 := Pk.lt_of m90
      have c105 : (v9.alloc (Hn.hnB yG R 32)).cell? ⟨v4.heap.size, 0, none⟩ = some (.int .i64 R.dv) := Pk.cell_at m93 0
      have c106 : (v9.alloc (Hn.hnB yG R 32)).cell? ⟨v4.heap.size, 1, none⟩ = some (.int .i64 R.p) := Pk.cell_at m93 1
      have c107 : (v9.alloc (Hn.hnB yG R 32)).cell? ⟨v4.heap.size, 2, none⟩ = some (.int .i64 R.q) := Pk.cell_at m93 2
      have c108 : (v9.alloc (Hn.hnB yG R 32)).cell? ⟨v4.heap.size, 3, none⟩ = some (.int .i64 R.g) := Pk.cell_at m93 3
      have c109 : (v9.alloc (Hn.hnB yG R 32)).cell? ⟨v4.heap.size, 4, none⟩ = some (.int .i64 R.op) := Pk.cell_at m93 4
      have c110 : (v9.alloc (Hn.hnB yG R 32)).cell? ⟨v4.heap.size, 5, none⟩ = some (.int .i64 R.is) := Pk.cell_at m93 5
      have c111 : (v9.alloc (Hn.hnB yG R 32)).cell? ⟨v4.heap.size, 6, none⟩ = some (.int .i64 R.ve) := Pk.cell_at m93 6
      have c112 : (v9.alloc (Hn.hnB yG R 32)).cell? ⟨v4.heap.size, 7, none⟩ = some (.slice yS.a R.ol.length yS.c) := Pk.cell_at m93 7
      have c113 : (v9.alloc (Hn.hnB yG R 32)).cell? ⟨v4.heap.size, 8, none⟩ = some (.slice yS.b R.sl.length yS.d) := Pk.cell_at m93 8
      go_wp2_with fail
      refine (HE.out yG yS _ i97 i95).mono ?_
      clear c105 c106 c107 c108 c109 c110 c111 c112 c113
      generalize (v9.alloc (Hn.hnB yG R 32)) = v10 at *
      rintro e v11 ⟨rfl, Lv11⟩
      have m114 := Pk.kept Lv11 (Pk.lt_of m92) m92
      clear m92
      have m115 := Pk.kept Lv11 (Pk.lt_of m93) m93
      clear m93
      have m116 := Pk.kept Lv11 (Pk.lt_of m94) m94
      clear m94
      have m117 := Pk.kept Lv11 (Pk.lt_of m90) m90
      clear m90
      have i118 := i95.on Lv11
      clear i95
      have i119 := i96.on Lv11
      clear i96
      have i120 := i97.on Lv11
      clear i97
      have i121 := i98.on Lv11
      clear i98
      have i122 := i99.on Lv11
      clear i99
      have q123 := q100.on Lv11
      clear q100
      have q124 := Pk.Room.on q101 Lv11 (by omega)
      clear q101
      have L125 := Pk.join_below L102 Lv11
      clear L102
      have hs126 : v10.heap.size ≤ v11.heap.size := Lv11.size
      have c127 : v11.cell? ⟨w.heap.size, 0, none⟩ = some (.int .i64 o0.dv) := Pk.cell_at m114 0
      have c128 : v11.cell? ⟨w.heap.size, 1, none⟩ = some (.int .i64 o0.p) := Pk.cell_at m114 1
      have c129 : v11.cell? ⟨w.heap.size, 2, none⟩ = some (.int .i64 o0.q) := Pk.cell_at m114 2
      have c130 : v11.cell? ⟨w.heap.size, 3, none⟩ = some (.int .i64 o0.g) := Pk.cell_at m114 3
      have c131 : v11.cell? ⟨w.heap.size, 4, none⟩ = some (.int .i64 o0.op) := Pk.cell_at m114 4
      have c132 : v11.cell? ⟨w.heap.size, 5, none⟩ = some (.int .i64 o0.is) := Pk.cell_at m114 5
      have c133 : v11.cell? ⟨w.heap.size, 6, none⟩ = some (.int .i64 o0.ve) := Pk.cell_at m114 6
      have c134 : v11.cell? ⟨w.heap.size, 7, none⟩ = some (.slice x0.a o0.ol.length x0.c) := Pk.cell_at m114 7
      have c135 : v11.cell? ⟨w.heap.size, 8, none⟩ = some (.slice x0.b o0.sl.length x0.d) := Pk.cell_at m114 8
      have c136 : v11.cell? ⟨v6.heap.size, 0, none⟩ = some (.int .i64 o0.dv) := Pk.cell_at m116 0
      have c137 : v11.cell? ⟨v6.heap.size, 1, none⟩ = some (.int .i64 o0.p) := Pk.cell_at m116 1
      have c138 : v11.cell? ⟨v6.heap.size, 2, none⟩ = some (.int .i64 o0.q) := Pk.cell_at m116 2
      have c139 : v11.cell? ⟨v6.heap.size, 3, none⟩ = some (.int .i64 o0.g) := Pk.cell_at m116 3
      have c140 : v11.cell? ⟨v6.heap.size, 4, none⟩ = some (.int .i64 o0.op) := Pk.cell_at m116 4
      have c141 : v11.cell? ⟨v6.heap.size, 5, none⟩ = some (.int .i64 o0.is) := Pk.cell_at m116 5
      have c142 : v11.cell? ⟨v6.heap.size, 6, none⟩ = some (.int .i64 o0.ve) := Pk.cell_at m116 6
      have c143 : v11.cell? ⟨v6.heap.size, 7, none⟩ = some (.slice yX.a o0.ol.length yX.c) := Pk.cell_at m116 7
      have c144 : v11.cell? ⟨v6.heap.size, 8, none⟩ = some (.slice yX.b o0.sl.length yX.d) := Pk.cell_at m116 8
      go_wp2
      go_cut [60] from 19 (fun t wc => t = .bool false ∧ Below v11.heap.size v11 wc)
      case first =>
        go_region_with (first
          | (go_at_call 6; refine (HTO.out _ ?_).mono ?_; (first | exact I.on L125 | exact I.on L125.drew); rintro e x1 ⟨y1, ge, gf, rfl, M0, J1, -⟩; have M1 : Below v11.heap.size v11 x1 := (by first | exact M0 | exact ((Below.refl _ _).drew).trans M0); have p1 := Pk.kept M1 (Pk.lt_of m116) m116; have I11 := i119.on M1; have dd0 : x1.cell? ⟨v6.heap.size, 0, none⟩ = some (.int .i64 o0.dv) := Pk.cell_at p1 0; have dd1 : x1.cell? ⟨v6.heap.size, 1, none⟩ = some (.int .i64 o0.p) := Pk.cell_at p1 1; have dd2 : x1.cell? ⟨v6.heap.size, 2, none⟩ = some (.int .i64 o0.q) := Pk.cell_at p1 2; have dd3 : x1.cell? ⟨v6.heap.size, 3, none⟩ = some (.int .i64 o0.g) := Pk.cell_at p1 3; have dd4 : x1.cell? ⟨v6.heap.size, 4, none⟩ = some (.int .i64 o0.op) := Pk.cell_at p1 4; have dd5 : x1.cell? ⟨v6.heap.size, 5, none⟩ = some (.int .i64 o0.is) := Pk.cell_at p1 5; have dd6 : x1.cell? ⟨v6.heap.size, 6, none⟩ = some (.int .i64 o0.ve) := Pk.cell_at p1 6; have dd7 : x1.cell? ⟨v6.heap.size, 7, none⟩ = some (.slice yX.a o0.ol.length yX.c) := Pk.cell_at p1 7; have dd8 : x1.cell? ⟨v6.heap.size, 8, none⟩ = some (.slice yX.b o0.sl.length yX.d) := Pk.cell_at p1 8; clear M0 p1)
          | (go_at_call 9; refine (HEO.out _ _ _ ?_ ?_).mono ?_; (exact I11); (exact J1); rintro e x2 ⟨rfl, M3⟩))
        all_goals
          have M4 := Pk.join_below M1 M3
          go_wp2
          go_meet
          case rel => exact ⟨rfl, M4⟩
      case rest =>
        obtain ⟨rfl, LC⟩ := hcut
        clear c127 c128 c129 c130 c131 c132 c133 c134 c135 c136 c137 c138 c139 c140 c141 c142 c143 c144
        obtain ⟨wq, hwq⟩ : ∃ wq, wq = wc := ⟨_, rfl⟩
        subst hwq
        have m145 := Pk.kept LC (Pk.lt_of m114) m114
        clear m114
        have m146 := Pk.kept LC (Pk.lt_of m115) m115
        clear m115
        have m147 := Pk.kept LC (Pk.lt_of m116) m116
        clear m116
        have m148 := Pk.kept LC (Pk.lt_of m117) m117
        clear m117
        have i149 := i118.on LC
        clear i118
        have i150 := i119.on LC
        clear i119
        have i151 := i120.on LC
        clear i120
        have i152 := i121.on LC
        clear i121
        have i153 := i122.on LC
        clear i122
        have q154 := q123.on LC
        clear q123
        have q155 := Pk.Room.on q124 LC (by omega)
        clear q124
        have L156 := Pk.join_below L125 LC
        clear L125
        have hs157 : v11.heap.size ≤ wq.heap.size := LC.size
        go_wp2_with fail
        refine (HTI.out _ (J.on L156)).mono ?_
        rintro e v12 ⟨rfl, Lv12, I12, -, -⟩
        have m158 := Pk.kept Lv12 (Pk.lt_of m145) m145
        clear m145
        have m159 := Pk.kept Lv12 (Pk.lt_of m146) m146
        clear m146
        have m160 := Pk.kept Lv12 (Pk.lt_of m147) m147
        clear m147
        have m161 := Pk.kept Lv12 (Pk.lt_of m148) m148
        clear m148
        have i162 := i149.on Lv12
        clear i149
        have i163 := i150.on Lv12
        clear i150
        have i164 := i151.on Lv12
        clear i151
        have i165 := i152.on Lv12
        clear i152
        have i166 := i153.on Lv12
        clear i153
        have q167 := q154.on Lv12
        clear q154
        have q168 := Pk.Room.on q155 Lv12 (by omega)
        clear q155
        have L169 := Pk.join_below L156 Lv12
        clear L156
        have hs170 : wq.heap.size ≤ v12.heap.size := Lv12.size
        go_wp2_with fail
        refine (HEI.out _ _ _ _ _ q167 I12).mono ?_
        rintro e v13 ⟨rfl, D13⟩
        clear I12
        have Lv13 := D13.below v12.heap.size
        have m171 := Pk.kept Lv13 (Pk.lt_of m158) m158
        clear m158
        have m172 := Pk.kept Lv13 (Pk.lt_of m159) m159
        clear m159
        have m173 := Pk.kept Lv13 (Pk.lt_of m160) m160
        clear m160
        have m174 := Pk.kept Lv13 (Pk.lt_of m161) m161
        clear m161
        have i175 := i162.on Lv13
        clear i162
        have i176 := i163.on Lv13
        clear i163
        have i177 := i164.on Lv13
        clear i164
        have i178 := i165.on Lv13
        clear i165
        have i179 := i166.on Lv13
        clear i166
        have q180 := q167.on Lv13
        clear q167
        have q181 := Pk.Room.on q168 Lv13 (by omega)
        clear q168
        have L182 := Pk.join_below L169 Lv13
        clear L169
        have hs183 : v12.heap.size ≤ v13.heap.size := Lv13.size
        clear D13
        have c184 : v13.cell? ⟨v6.heap.size, 0, none⟩ = some (.int .i64 o0.dv) := Pk.cell_at m173 0
        have c185 : v13.cell? ⟨v6.heap.size, 1, none⟩ = some (.int .i64 o0.p) := Pk.cell_at m173 1
        have c186 : v13.cell? ⟨v6.heap.size, 2, none⟩ = some (.int .i64 o0.q) := Pk.cell_at m173 2
        have c187 : v13.cell? ⟨v6.heap.size, 3, none⟩ = some (.int .i64 o0.g) := Pk.cell_at m173 3
        have c188 : v13.cell? ⟨v6.heap.size, 4, none⟩ = some (.int .i64 o0.op) := Pk.cell_at m173 4
        have c189 : v13.cell? ⟨v6.heap.size, 5, none⟩ = some (.int .i64 o0.is) := Pk.cell_at m173 5
        have c190 : v13.cell? ⟨v6.heap.size, 6, none⟩ = some (.int .i64 o0.ve) := Pk.cell_at m173 6
        have c191 : v13.cell? ⟨v6.heap.size, 7, none⟩ = some (.slice yX.a o0.ol.length yX.c) := Pk.cell_at m173 7
        have c192 : v13.cell? ⟨v6.heap.size, 8, none⟩ = some (.slice yX.b o0.sl.length yX.d) := Pk.cell_at m173 8
        go_wp2_with fail
        refine (Hn.markHand_val yX o0 yX1 yX2 v5.heap.size v6.heap.size _ HZO.out.1 (by have := HZO.out.2; omega) i178 (Or.inr yXa) (Or.inr yXb)).mono ?_
        clear c184 c185 c186 c187 c188 c189 c190 c191 c192
        rintro e v14 ⟨rfl, Bv14, -⟩
        clear i178 i176
        have m193 := (Bv14.block _ (Pk.lt_of m171) (by have := Pk.lt_of m171; omega)).trans m171
        clear m171
        have m194 := (Bv14.block _ (Pk.lt_of m172) (by have := Pk.lt_of m172; omega)).trans m172
        clear m172
        have m195 := (Bv14.block _ (Pk.lt_of m173) (by have := Pk.lt_of m173; omega)).trans m173
        clear m173
        have m196 := (Bv14.block _ (Pk.lt_of m174) (by have := Pk.lt_of m174; omega)).trans m174
        clear m174
        have i197 := i175.brd Bv14 (HFS.out _ _ (by omega))
        clear i175
        have i198 := i177.brd Bv14 (HFG.out _ _ (by omega))
        clear i177
        have i199 := i179.brd Bv14 (by omega)
        clear i179
        have q200 := Hn.Ints.brd q180 Bv14 (far_ints (by omega))
        clear q180
        have q201 := Hn.Room.brd q181 Bv14 (by omega) (by omega)
        clear q181
        have L202 := Bv14.below L182 (by omega) (by omega)
        clear L182
        have hs203 : v13.heap.size ≤ v14.heap.size := Bv14.size
        go_wp2_with fail
        refine (Hn.markIntS_val (some ⟨v7.heap.size, 0, none⟩) v7.heap.size ys.length _ _ _ HYS.out (by omega) HKB.out (Or.inr ⟨rfl, q201⟩)).mono ?_
        rintro e v15 ⟨rfl, B15, -, -⟩
        clear q201 q200
        have BB := Hn.Brd.band (lo := v7.heap.size) (hi := v7.heap.size + 1) B15 (Nat.le_refl _) (Nat.le_refl _)
        have m204 := (BB.block _ (Pk.lt_of m193) (by have := Pk.lt_of m193; omega)).trans m193
        clear m193
        have m205 := (BB.block _ (Pk.lt_of m194) (by have := Pk.lt_of m194; omega)).trans m194
        clear m194
        have m206 := (BB.block _ (Pk.lt_of m195) (by have := Pk.lt_of m195; omega)).trans m195
        clear m195
        have m207 := (BB.block _ (Pk.lt_of m196) (by have := Pk.lt_of m196; omega)).trans m196
        clear m196
        have i208 := i197.brd BB (HFS.out _ _ (by omega))
        clear i197
        have i209 := i198.brd BB (HFG.out _ _ (by omega))
        clear i198
        have i210 := i199.brd BB (by omega)
        clear i199
        have L211 := BB.below L202 (by omega) (by omega)
        clear L202
        have hs212 : v14.heap.size ≤ v15.heap.size := BB.size
        have c213 : v15.cell? ⟨v9.heap.size, 0, none⟩ = some (.int .i64 R.dv) := Pk.cell_at m207 0
        have c214 : v15.cell? ⟨v9.heap.size, 1, none⟩ = some (.int .i64 R.p) := Pk.cell_at m207 1
        have c215 : v15.cell? ⟨v9.heap.size, 2, none⟩ = some (.int .i64 R.q) := Pk.cell_at m207 2
        have c216 : v15.cell? ⟨v9.heap.size, 3, none⟩ = some (.int .i64 R.g) := Pk.cell_at m207 3
        have c217 : v15.cell? ⟨v9.heap.size, 4, none⟩ = some (.int .i64 R.op) := Pk.cell_at m207 4
        have c218 : v15.cell? ⟨v9.heap.size, 5, none⟩ = some (.int .i64 R.is) := Pk.cell_at m207 5
        have c219 : v15.cell? ⟨v9.heap.size, 6, none⟩ = some (.int .i64 R.ve) := Pk.cell_at m207 6
        have c220 : v15.cell? ⟨v9.heap.size, 7, none⟩ = some (.slice yG.a R.ol.length yG.c) := Pk.cell_at m207 7
        have c221 : v15.cell? ⟨v9.heap.size, 8, none⟩ = some (.slice yG.b R.sl.length yG.d) := Pk.cell_at m207 8
        have c222 : v15.cell? ⟨v4.heap.size, 0, none⟩ = some (.int .i64 R.dv) := Pk.cell_at m205 0
        have c223 : v15.cell? ⟨v4.heap.size, 1, none⟩ = some (.int .i64 R.p) := Pk.cell_at m205 1
        have c224 : v15.cell? ⟨v4.heap.size, 2, none⟩ = some (.int .i64 R.q) := Pk.cell_at m205 2
        have c225 : v15.cell? ⟨v4.heap.size, 3, none⟩ = some (.int .i64 R.g) := Pk.cell_at m205 3
        have c226 : v15.cell? ⟨v4.heap.size, 4, none⟩ = some (.int .i64 R.op) := Pk.cell_at m205 4
        have c227 : v15.cell? ⟨v4.heap.size, 5, none⟩ = some (.int .i64 R.is) := Pk.cell_at m205 5
        have c228 : v15.cell? ⟨v4.heap.size, 6, none⟩ = some (.int .i64 R.ve) := Pk.cell_at m205 6
        have c229 : v15.cell? ⟨v4.heap.size, 7, none⟩ = some (.slice yS.a R.ol.length yS.c) := Pk.cell_at m205 7
        have c230 : v15.cell? ⟨v4.heap.size, 8, none⟩ = some (.slice yS.b R.sl.length yS.d) := Pk.cell_at m205 8
        go_wp2_with fail
        refine (HE.out yG yS _ i209 i208).mono ?_
        clear c213 c214 c215 c216 c217 c218 c219 c220 c221 c222 c223 c224 c225 c226 c227 c228 c229 c230
        rintro e v16 ⟨rfl, Lv16⟩
        have m231 := Pk.kept Lv16 (Pk.lt_of m204) m204
        clear m204
        have m232 := Pk.kept Lv16 (Pk.lt_of m205) m205
        clear m205
        have m233 := Pk.kept Lv16 (Pk.lt_of m206) m206
        clear m206
        have m234 := Pk.kept Lv16 (Pk.lt_of m207) m207
        clear m207
        have i235 := i208.on Lv16
        clear i208
        have i236 := i209.on Lv16
        clear i209
        have i237 := i210.on Lv16
        clear i210
        have L238 := Pk.join_below L211 Lv16
        clear L211
        have hs239 : v15.heap.size ≤ v16.heap.size := Lv16.size
        have c240 : v16.cell? ⟨v9.heap.size, 0, none⟩ = some (.int .i64 R.dv) := Pk.cell_at m234 0
        have c241 : v16.cell? ⟨v9.heap.size, 1, none⟩ = some (.int .i64 R.p) := Pk.cell_at m234 1
        have c242 : v16.cell? ⟨v9.heap.size, 2, none⟩ = some (.int .i64 R.q) := Pk.cell_at m234 2
        have c243 : v16.cell? ⟨v9.heap.size, 3, none⟩ = some (.int .i64 R.g) := Pk.cell_at m234 3
        have c244 : v16.cell? ⟨v9.heap.size, 4, none⟩ = some (.int .i64 R.op) := Pk.cell_at m234 4
        have c245 : v16.cell? ⟨v9.heap.size, 5, none⟩ = some (.int .i64 R.is) := Pk.cell_at m234 5
        have c246 : v16.cell? ⟨v9.heap.size, 6, none⟩ = some (.int .i64 R.ve) := Pk.cell_at m234 6
        have c247 : v16.cell? ⟨v9.heap.size, 7, none⟩ = some (.slice yG.a R.ol.length yG.c) := Pk.cell_at m234 7
        have c248 : v16.cell? ⟨v9.heap.size, 8, none⟩ = some (.slice yG.b R.sl.length yG.d) := Pk.cell_at m234 8
        go_wp2_with fail
        refine (Hn.markHand_val yG R gG1 gG2 v8.heap.size v9.heap.size _ HZ.out.1 (by have := HZ.out.2; omega) i237 (HG1.out.imp_right fun h => h.2) (HG2.out.imp_right fun h => h.2)).mono ?_
        clear c240 c241 c242 c243 c244 c245 c246 c247 c248
        rintro e v17 ⟨rfl, Bv17, Kv17⟩
        clear i237 i236
        have m249 := (Bv17.block _ (Pk.lt_of m231) (by have := Pk.lt_of m231; omega)).trans m231
        clear m231
        have m250 := (Bv17.block _ (Pk.lt_of m232) (by have := Pk.lt_of m232; omega)).trans m232
        clear m232
        have m251 := (Bv17.block _ (Pk.lt_of m233) (by have := Pk.lt_of m233; omega)).trans m233
        clear m233
        have m252 := (Bv17.block _ (Pk.lt_of m234) (by have := Pk.lt_of m234; omega)).trans m234
        clear m234
        have i253 := i235.brd Bv17 (HFS.out _ _ (by omega))
        clear i235
        have L254 := Bv17.below L238 (by omega) (by omega)
        clear L238
        have hs255 : v16.heap.size ≤ v17.heap.size := Bv17.size
        have c256 : v17.cell? ⟨v9.heap.size, 0, none⟩ = some (.int .i64 R.dv) := Pk.cell_at m252 0
        have c257 : v17.cell? ⟨v9.heap.size, 1, none⟩ = some (.int .i64 R.p) := Pk.cell_at m252 1
        have c258 : v17.cell? ⟨v9.heap.size, 2, none⟩ = some (.int .i64 R.q) := Pk.cell_at m252 2
        have c259 : v17.cell? ⟨v9.heap.size, 3, none⟩ = some (.int .i64 R.g) := Pk.cell_at m252 3
        have c260 : v17.cell? ⟨v9.heap.size, 4, none⟩ = some (.int .i64 R.op) := Pk.cell_at m252 4
        have c261 : v17.cell? ⟨v9.heap.size, 5, none⟩ = some (.int .i64 R.is) := Pk.cell_at m252 5
        have c262 : v17.cell? ⟨v9.heap.size, 6, none⟩ = some (.int .i64 R.ve) := Pk.cell_at m252 6
        have c263 : v17.cell? ⟨v9.heap.size, 7, none⟩ = some (.slice yG.a R.ol.length yG.c) := Pk.cell_at m252 7
        have c264 : v17.cell? ⟨v9.heap.size, 8, none⟩ = some (.slice yG.b R.sl.length yG.d) := Pk.cell_at m252 8
        go_wp2_with fail
        refine (Hn.heldHand_val yG R gG1 gG2 _ HZ.out.1 (by have := HZ.out.2; omega) (HG1.out.imp_right fun h => h.1) (HG2.out.imp_right fun h => h.1) Kv17).mono ?_
        clear c256 c257 c258 c259 c260 c261 c262 c263 c264
        rintro e v17h ⟨rfl, Lv17h⟩
        have m265 := Pk.kept Lv17h (Pk.lt_of m249) m249
        clear m249
        have m266 := Pk.kept Lv17h (Pk.lt_of m250) m250
        clear m250
        have m267 := Pk.kept Lv17h (Pk.lt_of m251) m251
        clear m251
        have m268 := Pk.kept Lv17h (Pk.lt_of m252) m252
        clear m252
        have i269 := i253.on Lv17h
        clear i253
        have i270 := Kv17.on Lv17h
        clear Kv17
        have L271 := Pk.join_below L254 Lv17h
        clear L254
        have hs272 : v17.heap.size ≤ v17h.heap.size := Lv17h.size
        have c273 : v17h.cell? ⟨w.heap.size, 0, none⟩ = some (.int .i64 o0.dv) := Pk.cell_at m265 0
        have c274 : v17h.cell? ⟨w.heap.size, 1, none⟩ = some (.int .i64 o0.p) := Pk.cell_at m265 1
        have c275 : v17h.cell? ⟨w.heap.size, 2, none⟩ = some (.int .i64 o0.q) := Pk.cell_at m265 2
        have c276 : v17h.cell? ⟨w.heap.size, 3, none⟩ = some (.int .i64 o0.g) := Pk.cell_at m265 3
        have c277 : v17h.cell? ⟨w.heap.size, 4, none⟩ = some (.int .i64 o0.op) := Pk.cell_at m265 4
        have c278 : v17h.cell? ⟨w.heap.size, 5, none⟩ = some (.int .i64 o0.is) := Pk.cell_at m265 5
        have c279 : v17h.cell? ⟨w.heap.size, 6, none⟩ = some (.int .i64 o0.ve) := Pk.cell_at m265 6
        have c280 : v17h.cell? ⟨w.heap.size, 7, none⟩ = some (.slice x0.a o0.ol.length x0.c) := Pk.cell_at m265 7
        have c281 : v17h.cell? ⟨w.heap.size, 8, none⟩ = some (.slice x0.b o0.sl.length x0.d) := Pk.cell_at m265 8
        go_wp2_with fail
        refine (HTO.out _ (I.on L271)).mono ?_
        clear c273 c274 c275 c276 c277 c278 c279 c280 c281
        rintro e v18 ⟨yB, yB1, yB2, rfl, Lv18, IyB, -, -, -, yBc, yBd⟩
        have m282 := Pk.kept Lv18 (Pk.lt_of m265) m265
        clear m265
        have m283 := Pk.kept Lv18 (Pk.lt_of m266) m266
        clear m266
        have m284 := Pk.kept Lv18 (Pk.lt_of m267) m267
        clear m267
        have m285 := Pk.kept Lv18 (Pk.lt_of m268) m268
        clear m268
        have i286 := i269.on Lv18
        clear i269
        have i287 := i270.on Lv18
        clear i270
        have L288 := Pk.join_below L271 Lv18
        clear L271
        have hs289 : v17h.heap.size ≤ v18.heap.size := Lv18.size
        have FyB : Hid (Hn.Flat yB) := ⟨⟨_, _, yBc⟩, ⟨_, _, yBd⟩⟩
        clear yBc yBd
        go_wp2_with fail
        refine (HTI.out _ (J.on L288)).mono ?_
        rintro e v19 ⟨rfl, Lv19, I19, -, -⟩
        have m290 := Pk.kept Lv19 (Pk.lt_of m282) m282
        clear m282
        have m291 := Pk.kept Lv19 (Pk.lt_of m283) m283
        clear m283
        have m292 := Pk.kept Lv19 (Pk.lt_of m284) m284
        clear m284
        have m293 := Pk.kept Lv19 (Pk.lt_of m285) m285
        clear m285
        have i294 := i286.on Lv19
        clear i286
        have i295 := IyB.on Lv19
        clear IyB
        have i296 := i287.on Lv19
        clear i287
        have L297 := Pk.join_below L288 Lv19
        clear L288
        have hs298 : v18.heap.size ≤ v19.heap.size := Lv19.size
        go_wp2_with fail
        refine (HI.out yB _ _ _ _ i295 FyB.out I19).mono ?_
        rintro e v20 ⟨yH, rfl, CH, Lv20⟩
        clear i295 I19
        have m299 := Pk.kept Lv20 (Pk.lt_of m290) m290
        clear m290
        have m300 := Pk.kept Lv20 (Pk.lt_of m291) m291
        clear m291
        have m301 := Pk.kept Lv20 (Pk.lt_of m292) m292
        clear m292
        have m302 := Pk.kept Lv20 (Pk.lt_of m293) m293
        clear m293
        have i303 := i294.on Lv20
        clear i294
        have i304 := i296.on Lv20
        clear i296
        have L305 := Pk.join_below L297 Lv20
        clear L297
        have hs306 : v19.heap.size ≤ v20.heap.size := Lv20.size
        have IH := CH.in
        clear CH
        have N307 := Pk.new_below v20 (Hn.hnB yH R 32)
        have m308 := Pk.heap_new v20 (Hn.hnB yH R 32)
        have m310 := Pk.kept N307 (Pk.lt_of m299) m299
        clear m299
        have m311 := Pk.kept N307 (Pk.lt_of m300) m300
        clear m300
        have m312 := Pk.kept N307 (Pk.lt_of m301) m301
        clear m301
        have m313 := Pk.kept N307 (Pk.lt_of m302) m302
        clear m302
        have i314 := i303.on N307
        clear i303
        have i315 := IH.on N307
        clear IH
        have i316 := i304.on N307
        clear i304
        have L317 := Pk.join_below L305 N307
        clear L305
        have hs318 : v20.heap.size ≤ (v20.alloc (Hn.hnB yH R 32)).heap.size := N307.size
        have hs319 := Pk.lt_of m308
        have c320 : (v20.alloc (Hn.hnB yH R 32)).cell? ⟨v4.heap.size, 0, none⟩ = some (.int .i64 R.dv) := Pk.cell_at m311 0
        have c321 : (v20.alloc (Hn.hnB yH R 32)).cell? ⟨v4.heap.size, 1, none⟩ = some (.int .i64 R.p) := Pk.cell_at m311 1
        have c322 : (v20.alloc (Hn.hnB yH R 32)).cell? ⟨v4.heap.size, 2, none⟩ = some (.int .i64 R.q) := Pk.cell_at m311 2
        have c323 : (v20.alloc (Hn.hnB yH R 32)).cell? ⟨v4.heap.size, 3, none⟩ = some (.int .i64 R.g) := Pk.cell_at m311 3
        have c324 : (v20.alloc (Hn.hnB yH R 32)).cell? ⟨v4.heap.size, 4, none⟩ = some (.int .i64 R.op) := Pk.cell_at m311 4
        have c325 : (v20.alloc (Hn.hnB yH R 32)).cell? ⟨v4.heap.size, 5, none⟩ = some (.int .i64 R.is) := Pk.cell_at m311 5
        have c326 : (v20.alloc (Hn.hnB yH R 32)).cell? ⟨v4.heap.size, 6, none⟩ = some (.int .i64 R.ve) := Pk.cell_at m311 6
        have c327 : (v20.alloc (Hn.hnB yH R 32)).cell? ⟨v4.heap.size, 7, none⟩ = some (.slice yS.a R.ol.length yS.c) := Pk.cell_at m311 7
        have c328 : (v20.alloc (Hn.hnB yH R 32)).cell? ⟨v4.heap.size, 8, none⟩ = some (.slice yS.b R.sl.length yS.d) := Pk.cell_at m311 8
        go_wp2_with fail
        refine (HE.out yH yS _ i315 i314).mono ?_
        clear c320 c321 c322 c323 c324 c325 c326 c327 c328
        generalize (v20.alloc (Hn.hnB yH R 32)) = v21 at *
        rintro e v22 ⟨rfl, Lv22⟩
        have m329 := Pk.kept Lv22 (Pk.lt_of m310) m310
        clear m310
        have m330 := Pk.kept Lv22 (Pk.lt_of m311) m311
        clear m311
        have m331 := Pk.kept Lv22 (Pk.lt_of m312) m312
        clear m312
        have m332 := Pk.kept Lv22 (Pk.lt_of m313) m313
        clear m313
        have m333 := Pk.kept Lv22 (Pk.lt_of m308) m308
        clear m308
        have i334 := i314.on Lv22
        clear i314
        have i335 := i315.on Lv22
        clear i315
        have i336 := i316.on Lv22
        clear i316
        have L337 := Pk.join_below L317 Lv22
        clear L317
        have hs338 : v21.heap.size ≤ v22.heap.size := Lv22.size
        have c339 : v22.cell? ⟨v9.heap.size, 0, none⟩ = some (.int .i64 R.dv) := Pk.cell_at m332 0
        have c340 : v22.cell? ⟨v9.heap.size, 1, none⟩ = some (.int .i64 R.p) := Pk.cell_at m332 1
        have c341 : v22.cell? ⟨v9.heap.size, 2, none⟩ = some (.int .i64 R.q) := Pk.cell_at m332 2
        have c342 : v22.cell? ⟨v9.heap.size, 3, none⟩ = some (.int .i64 R.g) := Pk.cell_at m332 3
        have c343 : v22.cell? ⟨v9.heap.size, 4, none⟩ = some (.int .i64 R.op) := Pk.cell_at m332 4
        have c344 : v22.cell? ⟨v9.heap.size, 5, none⟩ = some (.int .i64 R.is) := Pk.cell_at m332 5
        have c345 : v22.cell? ⟨v9.heap.size, 6, none⟩ = some (.int .i64 R.ve) := Pk.cell_at m332 6
        have c346 : v22.cell? ⟨v9.heap.size, 7, none⟩ = some (.slice yG.a R.ol.length yG.c) := Pk.cell_at m332 7
        have c347 : v22.cell? ⟨v9.heap.size, 8, none⟩ = some (.slice yG.b R.sl.length yG.d) := Pk.cell_at m332 8
        go_wp2_with fail
        refine (Hn.heldHand_val yG R gG1 gG2 _ HZ.out.1 (by have := HZ.out.2; omega) (HG1.out.imp_right fun h => h.1) (HG2.out.imp_right fun h => h.1) i336).mono ?_
        clear c339 c340 c341 c342 c343 c344 c345 c346 c347
        rintro e v23 ⟨rfl, Lv23⟩
        have m348 := Pk.kept Lv23 (Pk.lt_of m329) m329
        clear m329
        have m349 := Pk.kept Lv23 (Pk.lt_of m330) m330
        clear m330
        have m350 := Pk.kept Lv23 (Pk.lt_of m331) m331
        clear m331
        have m351 := Pk.kept Lv23 (Pk.lt_of m332) m332
        clear m332
        have m352 := Pk.kept Lv23 (Pk.lt_of m333) m333
        clear m333
        have i353 := i334.on Lv23
        clear i334
        have i354 := i335.on Lv23
        clear i335
        have i355 := i336.on Lv23
        clear i336
        have L356 := Pk.join_below L337 Lv23
        clear L337
        have hs357 : v22.heap.size ≤ v23.heap.size := Lv23.size
        go_wp2
        go_ret
        exact ⟨rfl, L356⟩
    · have N := Pk.new_below w (Hn.hnB x0 o0 27)
      have HB : Hid (¬ (o0.ol.length : Int) + (o0.sl.length : Int) ≤ 1048576) := hb
      clear hb
      go_enter Try.func3, Try.ntmps3
      go_wp2_with fail
      refine (Hn.szHand_no x0 o0 1048576 _ (by omega) (by omega) HM.out.1 HM.out.2 (by have := HB.out; omega)).mono ?_
      rintro e w1 ⟨rfl, L1⟩
      go_wp2
      go_ret
      exact ⟨rfl, Pk.join_below N L1⟩
  · have hdl : decide ((1048576 : Int) < (ys.length : Int)) = true := decide_eq_true (by omega)
    have N := Pk.new_below w (Hn.hnB x0 o0 27)
    clear hb2
    go_enter Try.func3, Try.ntmps3
    go_wp2
    go_ret
    exact ⟨rfl, N⟩

set_option maxRecDepth 100000 in
theorem contract (H : Type) (enc : TypeId × Value → H) (W : World) (base : Nat) (args : Array Value) (ds gs : List (DataW H)) (before : List MemPlace)
    (hval : ∀ (j : Nat) t v, Try.f3.params[j]? = some t → args[j]? = some v → Value.okWide Try.prog W .any base t v)
    (hW : DataW.Whole enc Try.prog Try.f3.params.toList Rows.fnExactHandUpdateSpec.vars false W args.toList ds gs before) :
    Calls Try.prog 3 args W fun e W' => ∃ v, e = .returned v ∧ Rows.fnExactHandUpdateSpec.post enc Try.prog Try.f3 false true false false W args v W' := by
  have hW' := hW
  obtain ⟨p, q, hA0, hV, rfl, hfz, hnd⟩ := hW
  have hA : DataW.TrodAll enc Try.prog W 0 (fun _ => true) true Try.f3.params.toList args.toList ds p := hA0
  rw [Try.params3] at hA hval
  obtain ⟨v0, vs0, d0, ds0, p0, q0, hargs, rfl, rfl, h0, r0⟩ := trodAll_cons hA
  obtain ⟨v1, vs1, d1, ds1, p1, q1, rfl, rfl, rfl, h1, r1⟩ := trodAll_cons r0
  obtain ⟨v2, vs2, d2, ds2, p2, q2, rfl, rfl, rfl, h2, r2⟩ := trodAll_cons r1
  obtain ⟨rfl, rfl, rfl⟩ := trodAll_nil r2
  obtain rfl : args = #[v0, v1, v2] := by cases args; simp_all
  obtain ⟨rfl, rfl⟩ := trodVars_none hV
  have k0 := h0
  have lt0 : ∀ x ∈ p0, x.block < W.heap.size := by obtain ⟨m, hm⟩ := k0; exact DataW.trod_lt m _ _ _ hm
  obtain ⟨x0, o0, rfl, w0i, w0l⟩ := Hn.hand_open (hval 0 27 v0 rfl rfl) h0
  have k1 := h1
  have lt1 : ∀ x ∈ p1, x.block < W.heap.size := by obtain ⟨m, hm⟩ := k1; exact DataW.trod_lt m _ _ _ hm
  obtain ⟨a1, rfl, rfl, rfl, w1⟩ := open_int Try.underlying3 (hval 1 3 v1 rfl rfl) h1
  have k2 := h2
  have lt2 : ∀ x ∈ p2, x.block < W.heap.size := by obtain ⟨m, hm⟩ := k2; exact DataW.trod_lt m _ _ _ hm
  obtain ⟨a2, len2, cap2, rfl⟩ := okWide_slice Try.underlying24 (hval 2 24 v2 rfl rfl)
  obtain ⟨z2, w2⟩ : ∃ zs, IsRow .i64 W a2 len2 cap2 zs := by
    obtain ⟨fuel, hf⟩ := h2
    rcases open_ints Try.underlying24 Try.underlying3 (by kernel_rfl) hf with ⟨hcs, _⟩ | ⟨x, l, c, zs, hcs, _, hl, hm, hz, _, hcell, hwz⟩
    · simp [Value.cells] at hcs
      obtain ⟨rfl, rfl, rfl⟩ := hcs
      exact ⟨[], .inl ⟨rfl, rfl, rfl, rfl⟩⟩
    · simp [Value.cells] at hcs
      obtain ⟨rfl, rfl, rfl⟩ := hcs
      exact ⟨zs, .inr ⟨_, rfl, hl, hm, by simpa using hz, hcell, hwz⟩⟩
  clear hA0
  refine (walk x0 o0 a1 w1 a2 len2 cap2 z2 W ⟨w0i, w0l⟩ w2  ).mono fun e W' ⟨he, bel⟩ => ?_
  subst he
  exact ⟨_, rfl, _, _, _, [], _, [], hW', trodAll_mk1 (shut_bool Try.underlying4 _), (trodAll_cons_mk (Below.trod Errs.laidOut (by kernel_rfl) (of_decide_eq_true (by kernel_rfl)) k0 bel lt0) (trodAll_cons_mk (Below.trod Errs.laidOut (by kernel_rfl) (of_decide_eq_true (by kernel_rfl)) k1 bel lt1) (trodAll_cons_mk (Below.trod Errs.laidOut (by kernel_rfl) (of_decide_eq_true (by kernel_rfl)) k2 bel lt2) trodAll_mk0))), rfl, bel.frame _, fun h => by cases h⟩

set_option maxRecDepth 100000 in
theorem lifted (os : Os) (started : os.Started) (H : Type) (enc : TypeId × Value → H) :
    ReturnsInHanded {} Try.checked os 3 .any (Rows.fnExactHandUpdateSpec.pre6 enc Try.prog Try.f3 Rows.fnExactHandUpdateRow.domain false) (Rows.fnExactHandUpdateSpec.post enc Try.prog Try.f3 false true false false) := by
  refine returnsInHanded_of_change (C := Try.checked) Errs.own started (by kernel_rfl) Try.func3
    (ChangeSpec.witness6 (enc := enc) (C := Try.checked) false ⟨#[], #[.agg #[.int .i64 0, .int .i64 0, .int .i64 0, .int .i64 0, .int .i64 0, .int .i64 0, .int .i64 0, .slice none 0 0, .slice none 0 0], .int .i64 0, .slice none 0 0], []⟩ 8 (by kernel_rfl) (by kernel_rfl) (by kernel_rfl) (by kernel_rfl)) ?_
  intro W base args ds gs before hval hW _ _
  exact contract H enc W base args ds gs before hval hW

set_option maxRecDepth 100000 in
theorem over : Rows.fnExactHandUpdateRow.holds Try.pinned (OpenSpec.ofChange Rows.fnExactHandUpdateSpec) :=
  OpenClaim.holds_of_wide 3 Try.f3 rfl rfl rfl rfl rfl rfl rfl ⟨rfl, rfl, rfl, rfl, rfl⟩ rfl rfl rfl rfl rfl (by kernel_rfl) Try.func3 (by kernel_rfl)
    (of_decide_eq_true (by kernel_rfl)) (by unfold Func.isWrapper; first | (rw [if_pos (by decide +kernel)]; kernel_rfl) | (rw [if_neg (by decide +kernel)]; exact ⟨rfl, rfl⟩))
    (fun os started H enc _ => lifted os started H enc)
end Go.Proofs.Ytlgolnddhfadeab.fnExactHandUpdate
namespace Go.Proofs.Ytlgolnddhfadeab
theorem FnExactHandUpdate_holds : Rows.FnExactHandUpdateSaid := fnExactHandUpdate.over
end Go.Proofs.Ytlgolnddhfadeab
