/- For every day the law of DeskStart answers true: the program's DeskStart and its model tell the same booth, field by field, and the same verdict; what is told owns its memory, behind another call too. The program's own errors are as their text lays them (the card ties them; over a pruned copy of the project). -/
import Derived.Test.YtmoinacceildcaaGreatDoorErrs
import Derived.ShutString
import Derived.Lib.SmallJoins
import Derived.Test.YtmoinacceildcaaGreatDoorCards
import Derived.Test.YtmoinacceildcaaGreatDoorTie
import Derived.Test.YtmoinacceildcaaGreatDoorManyBFnExactDeskStart
import Derived.Deep.Cut
namespace Go.Proofs.YtmoinacceildcaaGreatDoor.fnExactDeskStart
open Go.ChangeShapes Go.WideShapes Go.ChangeAt Go.RowKit Go.Joins
open Go.ChangeMaps (open_string shut_string)
set_option linter.unusedVariables false
set_option linter.unusedSimpArgs false

set_option maxRecDepth 100000 in
set_option maxHeartbeats 4000000 in
theorem walk (a0 : Int) (w0 : (Lit.int .i64 a0).wf = true) (w : World)  (E_errParams : Errs.ErrAt 0 w) (E_errSecret : Errs.ErrAt 1 w)  :
    Calls Tryz.prog 3 #[.int .i64 a0] w fun e w' => e = .returned (.bool true) ∧ Below w.heap.size w w' := by
  obtain ⟨o1, o2, o3, o4, o5, o6⟩ := Dk.o_bd a0
  have HS : Hid (∀ W : World, _) := fun W => Dk.specDesk_val a0 w0 W
  have HI : Hid (∀ W : World, Below w.heap.size w W → _) := fun W (K : Below w.heap.size w W) => Dk.implDesk_val a0 w0 W (E_errParams.on K) (E_errSecret.on K)
  have hBB : (Of.startB Dk.dT Dk.dE a0 != Of.startB Dk.dT Dk.dE a0) = false := by simp
  generalize Dk.oT a0 = ts at *
  generalize Dk.oE a0 = es at *
  generalize Dk.oD a0 = td at *
  generalize Dk.oH a0 = R at *
  generalize Of.startB Dk.dT Dk.dE a0 = B at *
  have p1 := Of.off_bd 1 ts o2 ts.length (Nat.le_refl _)
  have p2 := Of.off_bd (Of.off 1 ts ts.length + 3 * (es.length : Int)) ts o2 ts.length (Nat.le_refl _)
  have HEQ : Hid (∀ (x y x' y' : Of.Pl) (W : World), Of.In W x ⟨ts, es, [], [], [], td⟩ → Of.In W y ⟨ts, es, [], [], [], td⟩ → Of.In W x' ⟨ts, es, [], [], [], td⟩ → Of.In W y' ⟨ts, es, [], [], [], td⟩ → _) := fun x y x' y' W h1 h2 h3 h4 => Dk.eqBooth_same x y x' y' ⟨ts, es, [], [], [], td⟩ Hn.noX Hn.noX R W o4 (by rw [o5]; simp) (by rw [o6]; simp) h1 h2 h3 h4 (Hn.noX_in W R o5 o6) (Hn.noX_in W R o5 o6)
  have HMK : Hid (∀ (lo mid hi : Nat) (a2 a3 b2 b3 : Option Addr) (c2 c3 d2 d3 : Nat) (W : World), Dk.Sp W lo mid a2 a3 ts es → Dk.Sp W mid hi b2 b3 ts es → _) := fun lo mid hi a2 a3 b2 b3 c2 c3 d2 d3 W h1 h2 => Dk.markBooth_val 1 (by omega) (by omega) lo mid hi a2 a3 b2 b3 ts es c2 c3 d2 d3 td R.dv R.p R.q R.g R.op R.is R.ve W o1 o2 o3 h1 h2
  have HHD : Hid (∀ (lo mid hi : Nat) (a2 a3 b2 b3 : Option Addr) (c2 c3 d2 d3 : Nat) (W : World), (Of.OM 1 W lo mid a2 a3 ts es ∧ Of.OM (Of.off 1 ts ts.length + 3 * (es.length : Int)) W mid hi b2 b3 ts es) → _) := fun lo mid hi a2 a3 b2 b3 c2 c3 d2 d3 W h => Dk.heldBooth_val 1 (by omega) (by omega) lo mid hi a2 a3 b2 b3 ts es c2 c3 d2 d3 td R.dv R.p R.q R.g R.op R.is R.ve W o1 o2 o3 h
  have hd : decide ((Of.off (Of.off 1 ts ts.length + 3 * (es.length : Int)) ts ts.length + 3 * (es.length : Int)) < 0) = false := decide_eq_false (by omega)
  rw [o5, o6] at HEQ
  simp only [List.length_nil] at HEQ
  clear o1 o2 o3 o4 o5 o6 p1 p2
  generalize hz2 : (Of.off (Of.off 1 ts ts.length + 3 * (es.length : Int)) ts ts.length + 3 * (es.length : Int)) = zz at *
  clear hz2
  go_enter Tryz.func3, Tryz.ntmps3
  go_wp2_with fail
  refine (HS.out _).mono ?_
  rintro e v1 ⟨x, y, rfl, X, Y, Lv1⟩
  have L1 := Lv1
  have hs2 : w.heap.size ≤ v1.heap.size := Lv1.size
  have M1 : Below v1.heap.size v1 v1 := Below.refl _ _
  have N3 := Pk.new_below v1 (.cells #[.slice x.a0 ts.length x.c0, .slice x.a1 es.length x.c1, .slice x.a2 0 x.c2, .slice x.a3 0 x.c3, .slice x.a4 0 x.c4, .int .i64 td, .slice y.a0 ts.length y.c0, .slice y.a1 es.length y.c1, .slice y.a2 0 y.c2, .slice y.a3 0 y.c3, .slice y.a4 0 y.c4, .int .i64 td, .string ⟨#[]⟩, .int .i64 0, .int .i64 R.dv, .int .i64 R.p, .int .i64 R.q, .int .i64 R.g, .int .i64 R.op, .int .i64 R.is, .int .i64 R.ve, .slice none 0 0, .slice none 0 0, .int .i64 0, .slice none 0 0, .slice none 0 0] 40)
  have m4 := Pk.heap_new v1 (.cells #[.slice x.a0 ts.length x.c0, .slice x.a1 es.length x.c1, .slice x.a2 0 x.c2, .slice x.a3 0 x.c3, .slice x.a4 0 x.c4, .int .i64 td, .slice y.a0 ts.length y.c0, .slice y.a1 es.length y.c1, .slice y.a2 0 y.c2, .slice y.a3 0 y.c3, .slice y.a4 0 y.c4, .int .i64 td, .string ⟨#[]⟩, .int .i64 0, .int .i64 R.dv, .int .i64 R.p, .int .i64 R.q, .int .i64 R.g, .int .i64 R.op, .int .i64 R.is, .int .i64 R.ve, .slice none 0 0, .slice none 0 0, .int .i64 0, .slice none 0 0, .slice none 0 0] 40)
  have q6 := Pk.join_below M1 N3
  clear M1
  have L7 := Pk.join_below L1 N3
  clear L1
  have hs8 : v1.heap.size ≤ (v1.alloc (.cells #[.slice x.a0 ts.length x.c0, .slice x.a1 es.length x.c1, .slice x.a2 0 x.c2, .slice x.a3 0 x.c3, .slice x.a4 0 x.c4, .int .i64 td, .slice y.a0 ts.length y.c0, .slice y.a1 es.length y.c1, .slice y.a2 0 y.c2, .slice y.a3 0 y.c3, .slice y.a4 0 y.c4, .int .i64 td, .string ⟨#[]⟩, .int .i64 0, .int .i64 R.dv, .int .i64 R.p, .int .i64 R.q, .int .i64 R.g, .int .i64 R.op, .int .i64 R.is, .int .i64 R.ve, .slice none 0 0, .slice none 0 0, .int .i64 0, .slice none 0 0, .slice none 0 0] 40)).heap.size := N3.size
  have hs9 := Pk.lt_of m4
  go_wp2_with (refine wpList_store_row rfl 40 _ _ rfl v1.heap.size #[.slice x.a0 ts.length x.c0, .slice x.a1 es.length x.c1, .slice x.a2 0 x.c2, .slice x.a3 0 x.c3, .slice x.a4 0 x.c4, .int .i64 td, .slice y.a0 ts.length y.c0, .slice y.a1 es.length y.c1, .slice y.a2 0 y.c2, .slice y.a3 0 y.c3, .slice y.a4 0 y.c4, .int .i64 td, .string ⟨#[]⟩, .int .i64 0, .int .i64 R.dv, .int .i64 R.p, .int .i64 R.q, .int .i64 R.g, .int .i64 R.op, .int .i64 R.is, .int .i64 R.ve, .slice none 0 0, .slice none 0 0, .int .i64 0, .slice none 0 0, .slice none 0 0] rfl rfl 40 #[.slice none 0 0, .slice none 0 0, .slice none 0 0, .slice none 0 0, .slice none 0 0, .int .i64 0, .slice none 0 0, .slice none 0 0, .slice none 0 0, .slice none 0 0, .slice none 0 0, .int .i64 0, .string ⟨#[]⟩, .int .i64 0, .int .i64 0, .int .i64 0, .int .i64 0, .int .i64 0, .int .i64 0, .int .i64 0, .int .i64 0, .slice none 0 0, .slice none 0 0, .int .i64 0, .slice none 0 0, .slice none 0 0] (Pk.heap_new v1 _) (by kernel_rfl) (by kernel_rfl) (by kernel_rfl) ?_; rw [World.setRow_alloc_new])
  refine (HI.out _ L7).mono ?_
  generalize (v1.alloc (.cells #[.slice x.a0 ts.length x.c0, .slice x.a1 es.length x.c1, .slice x.a2 0 x.c2, .slice x.a3 0 x.c3, .slice x.a4 0 x.c4, .int .i64 td, .slice y.a0 ts.length y.c0, .slice y.a1 es.length y.c1, .slice y.a2 0 y.c2, .slice y.a3 0 y.c3, .slice y.a4 0 y.c4, .int .i64 td, .string ⟨#[]⟩, .int .i64 0, .int .i64 R.dv, .int .i64 R.p, .int .i64 R.q, .int .i64 R.g, .int .i64 R.op, .int .i64 R.is, .int .i64 R.ve, .slice none 0 0, .slice none 0 0, .int .i64 0, .slice none 0 0, .slice none 0 0] 40)) = v2 at *
  rintro e v3 ⟨ga2, gc2, ga3, gc3, gb2, gd2, gb3, gd3, mid, hi, rfl, S1, S2, Lv3⟩
  have m10 := Pk.kept Lv3 (Pk.lt_of m4) m4
  clear m4
  have q11 := Pk.join_below q6 Lv3
  clear q6
  have L12 := Pk.join_below L7 Lv3
  clear L7
  have hs13 : v2.heap.size ≤ v3.heap.size := Lv3.size
  have hlo : v2.heap.size ≤ mid ∧ mid ≤ hi ∧ hi ≤ v3.heap.size := by
    obtain ⟨_, -, -, h1, h2, h3, -⟩ := S1
    obtain ⟨_, -, -, h4, h5, h6, -⟩ := S2
    omega
  have N14 := Pk.new_below v3 (.cells #[.slice ga2 ts.length gc2, .slice ga3 es.length gc3, .slice none 0 0, .slice none 0 0, .slice none 0 0, .int .i64 td, .slice gb2 ts.length gd2, .slice gb3 es.length gd3, .slice none 0 0, .slice none 0 0, .slice none 0 0, .int .i64 td, .string ⟨#[]⟩, .int .i64 0, .int .i64 R.dv, .int .i64 R.p, .int .i64 R.q, .int .i64 R.g, .int .i64 R.op, .int .i64 R.is, .int .i64 R.ve, .slice none 0 0, .slice none 0 0, .int .i64 0, .slice none 0 0, .slice none 0 0] 40)
  have m15 := Pk.heap_new v3 (.cells #[.slice ga2 ts.length gc2, .slice ga3 es.length gc3, .slice none 0 0, .slice none 0 0, .slice none 0 0, .int .i64 td, .slice gb2 ts.length gd2, .slice gb3 es.length gd3, .slice none 0 0, .slice none 0 0, .slice none 0 0, .int .i64 td, .string ⟨#[]⟩, .int .i64 0, .int .i64 R.dv, .int .i64 R.p, .int .i64 R.q, .int .i64 R.g, .int .i64 R.op, .int .i64 R.is, .int .i64 R.ve, .slice none 0 0, .slice none 0 0, .int .i64 0, .slice none 0 0, .slice none 0 0] 40)
  have m17 := Pk.kept N14 (Pk.lt_of m10) m10
  clear m10
  have q18 := Pk.join_below q11 N14
  clear q11
  have q19 := S1.on N14
  clear S1
  have q20 := S2.on N14
  clear S2
  have L21 := Pk.join_below L12 N14
  clear L12
  have hs22 : v3.heap.size ≤ (v3.alloc (.cells #[.slice ga2 ts.length gc2, .slice ga3 es.length gc3, .slice none 0 0, .slice none 0 0, .slice none 0 0, .int .i64 td, .slice gb2 ts.length gd2, .slice gb3 es.length gd3, .slice none 0 0, .slice none 0 0, .slice none 0 0, .int .i64 td, .string ⟨#[]⟩, .int .i64 0, .int .i64 R.dv, .int .i64 R.p, .int .i64 R.q, .int .i64 R.g, .int .i64 R.op, .int .i64 R.is, .int .i64 R.ve, .slice none 0 0, .slice none 0 0, .int .i64 0, .slice none 0 0, .slice none 0 0] 40)).heap.size := N14.size
  have hs23 := Pk.lt_of m15
  go_wp2_with (first | (refine wpList_store_row rfl 40 _ _ rfl v3.heap.size #[.slice ga2 ts.length gc2, .slice ga3 es.length gc3, .slice none 0 0, .slice none 0 0, .slice none 0 0, .int .i64 td, .slice gb2 ts.length gd2, .slice gb3 es.length gd3, .slice none 0 0, .slice none 0 0, .slice none 0 0, .int .i64 td, .string ⟨#[]⟩, .int .i64 0, .int .i64 R.dv, .int .i64 R.p, .int .i64 R.q, .int .i64 R.g, .int .i64 R.op, .int .i64 R.is, .int .i64 R.ve, .slice none 0 0, .slice none 0 0, .int .i64 0, .slice none 0 0, .slice none 0 0] rfl rfl 40 #[.slice none 0 0, .slice none 0 0, .slice none 0 0, .slice none 0 0, .slice none 0 0, .int .i64 0, .slice none 0 0, .slice none 0 0, .slice none 0 0, .slice none 0 0, .slice none 0 0, .int .i64 0, .string ⟨#[]⟩, .int .i64 0, .int .i64 0, .int .i64 0, .int .i64 0, .int .i64 0, .int .i64 0, .int .i64 0, .int .i64 0, .slice none 0 0, .slice none 0 0, .int .i64 0, .slice none 0 0, .slice none 0 0] (Pk.heap_new v3 _) (by kernel_rfl) (by kernel_rfl) (by kernel_rfl) ?_; rw [World.setRow_alloc_new]) | (refine wpList_load_row rfl 40 _ rfl v3.heap.size rfl 40 #[.slice ga2 ts.length gc2, .slice ga3 es.length gc3, .slice none 0 0, .slice none 0 0, .slice none 0 0, .int .i64 td, .slice gb2 ts.length gd2, .slice gb3 es.length gd3, .slice none 0 0, .slice none 0 0, .slice none 0 0, .int .i64 td, .string ⟨#[]⟩, .int .i64 0, .int .i64 R.dv, .int .i64 R.p, .int .i64 R.q, .int .i64 R.g, .int .i64 R.op, .int .i64 R.is, .int .i64 R.ve, .slice none 0 0, .slice none 0 0, .int .i64 0, .slice none 0 0, .slice none 0 0] (0, 0) _ m15 Tryz.underlying40 rfl (by kernel_rfl) ?_) | (refine wpList_load_row rfl 40 _ rfl v1.heap.size rfl 40 #[.slice x.a0 ts.length x.c0, .slice x.a1 es.length x.c1, .slice x.a2 0 x.c2, .slice x.a3 0 x.c3, .slice x.a4 0 x.c4, .int .i64 td, .slice y.a0 ts.length y.c0, .slice y.a1 es.length y.c1, .slice y.a2 0 y.c2, .slice y.a3 0 y.c3, .slice y.a4 0 y.c4, .int .i64 td, .string ⟨#[]⟩, .int .i64 0, .int .i64 R.dv, .int .i64 R.p, .int .i64 R.q, .int .i64 R.g, .int .i64 R.op, .int .i64 R.is, .int .i64 R.ve, .slice none 0 0, .slice none 0 0, .int .i64 0, .slice none 0 0, .slice none 0 0] (0, 0) _ m17 Tryz.underlying40 rfl (by kernel_rfl) ?_))
  refine (HEQ.out ⟨ga2, ga3, none, none, none, gc2, gc3, 0, 0, 0⟩ ⟨gb2, gb3, none, none, none, gd2, gd3, 0, 0, 0⟩ x y _ ⟨(Dk.Sp.both q19).1, (Dk.Sp.both q19).2, Or.inl rfl, Or.inl rfl, Or.inl rfl⟩ ⟨(Dk.Sp.both q20).1, (Dk.Sp.both q20).2, Or.inl rfl, Or.inl rfl, Or.inl rfl⟩ (X _ (Of.Kp.of q18)) (Y _ (Of.Kp.of q18))).mono ?_
  generalize (v3.alloc (.cells #[.slice ga2 ts.length gc2, .slice ga3 es.length gc3, .slice none 0 0, .slice none 0 0, .slice none 0 0, .int .i64 td, .slice gb2 ts.length gd2, .slice gb3 es.length gd3, .slice none 0 0, .slice none 0 0, .slice none 0 0, .int .i64 td, .string ⟨#[]⟩, .int .i64 0, .int .i64 R.dv, .int .i64 R.p, .int .i64 R.q, .int .i64 R.g, .int .i64 R.op, .int .i64 R.is, .int .i64 R.ve, .slice none 0 0, .slice none 0 0, .int .i64 0, .slice none 0 0, .slice none 0 0] 40)) = v4 at *
  rintro e v5 ⟨rfl, Lv5⟩
  have m24 := Pk.kept Lv5 (Pk.lt_of m17) m17
  clear m17
  have m25 := Pk.kept Lv5 (Pk.lt_of m15) m15
  clear m15
  have q26 := Pk.join_below q18 Lv5
  clear q18
  have q27 := q19.on Lv5
  clear q19
  have q28 := q20.on Lv5
  clear q20
  have L29 := Pk.join_below L21 Lv5
  clear L21
  have hs30 : v4.heap.size ≤ v5.heap.size := Lv5.size
  go_wp2_with (refine wpList_load_row rfl 40 _ rfl v3.heap.size rfl 40 #[.slice ga2 ts.length gc2, .slice ga3 es.length gc3, .slice none 0 0, .slice none 0 0, .slice none 0 0, .int .i64 td, .slice gb2 ts.length gd2, .slice gb3 es.length gd3, .slice none 0 0, .slice none 0 0, .slice none 0 0, .int .i64 td, .string ⟨#[]⟩, .int .i64 0, .int .i64 R.dv, .int .i64 R.p, .int .i64 R.q, .int .i64 R.g, .int .i64 R.op, .int .i64 R.is, .int .i64 R.ve, .slice none 0 0, .slice none 0 0, .int .i64 0, .slice none 0 0, .slice none 0 0] (0, 0) _ m25 Tryz.underlying40 rfl (by kernel_rfl) ?_)
  refine (HMK.out _ mid hi ga2 ga3 gb2 gb3 gc2 gc3 gd2 gd3 _ q27 q28).mono ?_
  rintro e v6 ⟨rfl, OO, FF⟩
  clear q27 q28
  have m31 := FF.kept m24 (by have := Pk.lt_of m24; omega)
  clear m24
  have m32 := FF.kept m25 (by have := Pk.lt_of m25; omega)
  clear m25
  have q33 := FF.below q26 (by omega) (by omega)
  clear q26
  have L34 := FF.below L29 (by omega) (by omega)
  clear L29
  have hs6 : v5.heap.size ≤ v6.heap.size := FF.size
  go_wp2_with (refine wpList_load_row rfl 40 _ rfl v3.heap.size rfl 40 #[.slice ga2 ts.length gc2, .slice ga3 es.length gc3, .slice none 0 0, .slice none 0 0, .slice none 0 0, .int .i64 td, .slice gb2 ts.length gd2, .slice gb3 es.length gd3, .slice none 0 0, .slice none 0 0, .slice none 0 0, .int .i64 td, .string ⟨#[]⟩, .int .i64 0, .int .i64 R.dv, .int .i64 R.p, .int .i64 R.q, .int .i64 R.g, .int .i64 R.op, .int .i64 R.is, .int .i64 R.ve, .slice none 0 0, .slice none 0 0, .int .i64 0, .slice none 0 0, .slice none 0 0] (0, 0) _ m32 Tryz.underlying40 rfl (by kernel_rfl) ?_)
  refine (HHD.out _ mid hi ga2 ga3 gb2 gb3 gc2 gc3 gd2 gd3 _ OO).mono ?_
  rintro e v7 ⟨rfl, Lv7⟩
  have m35 := Pk.kept Lv7 (Pk.lt_of m31) m31
  clear m31
  have m36 := Pk.kept Lv7 (Pk.lt_of m32) m32
  clear m32
  have q37 := Pk.join_below q33 Lv7
  clear q33
  have q38 := (⟨OO.1.on Lv7, OO.2.on Lv7⟩ : _ ∧ _)
  clear OO
  have L39 := Pk.join_below L34 Lv7
  clear L34
  have hs40 : v6.heap.size ≤ v7.heap.size := Lv7.size
  go_wp2_with fail
  refine (HI.out _ L39).mono ?_
  rintro e v8 ⟨ha2, hc2, ha3, hc3, hb2, hd2, hb3, hd3, hmid, hhi, rfl, S3, S4, Lv8⟩
  have m41 := Pk.kept Lv8 (Pk.lt_of m35) m35
  clear m35
  have m42 := Pk.kept Lv8 (Pk.lt_of m36) m36
  clear m36
  have q43 := Pk.join_below q37 Lv8
  clear q37
  have q44 := (⟨q38.1.on Lv8, q38.2.on Lv8⟩ : _ ∧ _)
  clear q38
  have L45 := Pk.join_below L39 Lv8
  clear L39
  have hs46 : v7.heap.size ≤ v8.heap.size := Lv8.size
  have N47 := Pk.new_below v8 (.cells #[.slice ha2 ts.length hc2, .slice ha3 es.length hc3, .slice none 0 0, .slice none 0 0, .slice none 0 0, .int .i64 td, .slice hb2 ts.length hd2, .slice hb3 es.length hd3, .slice none 0 0, .slice none 0 0, .slice none 0 0, .int .i64 td, .string ⟨#[]⟩, .int .i64 0, .int .i64 R.dv, .int .i64 R.p, .int .i64 R.q, .int .i64 R.g, .int .i64 R.op, .int .i64 R.is, .int .i64 R.ve, .slice none 0 0, .slice none 0 0, .int .i64 0, .slice none 0 0, .slice none 0 0] 40)
  have m48 := Pk.heap_new v8 (.cells #[.slice ha2 ts.length hc2, .slice ha3 es.length hc3, .slice none 0 0, .slice none 0 0, .slice none 0 0, .int .i64 td, .slice hb2 ts.length hd2, .slice hb3 es.length hd3, .slice none 0 0, .slice none 0 0, .slice none 0 0, .int .i64 td, .string ⟨#[]⟩, .int .i64 0, .int .i64 R.dv, .int .i64 R.p, .int .i64 R.q, .int .i64 R.g, .int .i64 R.op, .int .i64 R.is, .int .i64 R.ve, .slice none 0 0, .slice none 0 0, .int .i64 0, .slice none 0 0, .slice none 0 0] 40)
  have m50 := Pk.kept N47 (Pk.lt_of m41) m41
  clear m41
  have m51 := Pk.kept N47 (Pk.lt_of m42) m42
  clear m42
  have q52 := Pk.join_below q43 N47
  clear q43
  have q53 := (⟨q44.1.on N47, q44.2.on N47⟩ : _ ∧ _)
  clear q44
  have q54 := S3.on N47
  clear S3
  have q55 := S4.on N47
  clear S4
  have L56 := Pk.join_below L45 N47
  clear L45
  have hs57 : v8.heap.size ≤ (v8.alloc (.cells #[.slice ha2 ts.length hc2, .slice ha3 es.length hc3, .slice none 0 0, .slice none 0 0, .slice none 0 0, .int .i64 td, .slice hb2 ts.length hd2, .slice hb3 es.length hd3, .slice none 0 0, .slice none 0 0, .slice none 0 0, .int .i64 td, .string ⟨#[]⟩, .int .i64 0, .int .i64 R.dv, .int .i64 R.p, .int .i64 R.q, .int .i64 R.g, .int .i64 R.op, .int .i64 R.is, .int .i64 R.ve, .slice none 0 0, .slice none 0 0, .int .i64 0, .slice none 0 0, .slice none 0 0] 40)).heap.size := N47.size
  have hs58 := Pk.lt_of m48
  go_wp2_with (first | (refine wpList_store_row rfl 40 _ _ rfl v8.heap.size #[.slice ha2 ts.length hc2, .slice ha3 es.length hc3, .slice none 0 0, .slice none 0 0, .slice none 0 0, .int .i64 td, .slice hb2 ts.length hd2, .slice hb3 es.length hd3, .slice none 0 0, .slice none 0 0, .slice none 0 0, .int .i64 td, .string ⟨#[]⟩, .int .i64 0, .int .i64 R.dv, .int .i64 R.p, .int .i64 R.q, .int .i64 R.g, .int .i64 R.op, .int .i64 R.is, .int .i64 R.ve, .slice none 0 0, .slice none 0 0, .int .i64 0, .slice none 0 0, .slice none 0 0] rfl rfl 40 #[.slice none 0 0, .slice none 0 0, .slice none 0 0, .slice none 0 0, .slice none 0 0, .int .i64 0, .slice none 0 0, .slice none 0 0, .slice none 0 0, .slice none 0 0, .slice none 0 0, .int .i64 0, .string ⟨#[]⟩, .int .i64 0, .int .i64 0, .int .i64 0, .int .i64 0, .int .i64 0, .int .i64 0, .int .i64 0, .int .i64 0, .slice none 0 0, .slice none 0 0, .int .i64 0, .slice none 0 0, .slice none 0 0] (Pk.heap_new v8 _) (by kernel_rfl) (by kernel_rfl) (by kernel_rfl) ?_; rw [World.setRow_alloc_new]) | (refine wpList_load_row rfl 40 _ rfl v8.heap.size rfl 40 #[.slice ha2 ts.length hc2, .slice ha3 es.length hc3, .slice none 0 0, .slice none 0 0, .slice none 0 0, .int .i64 td, .slice hb2 ts.length hd2, .slice hb3 es.length hd3, .slice none 0 0, .slice none 0 0, .slice none 0 0, .int .i64 td, .string ⟨#[]⟩, .int .i64 0, .int .i64 R.dv, .int .i64 R.p, .int .i64 R.q, .int .i64 R.g, .int .i64 R.op, .int .i64 R.is, .int .i64 R.ve, .slice none 0 0, .slice none 0 0, .int .i64 0, .slice none 0 0, .slice none 0 0] (0, 0) _ m48 Tryz.underlying40 rfl (by kernel_rfl) ?_) | (refine wpList_load_row rfl 40 _ rfl v1.heap.size rfl 40 #[.slice x.a0 ts.length x.c0, .slice x.a1 es.length x.c1, .slice x.a2 0 x.c2, .slice x.a3 0 x.c3, .slice x.a4 0 x.c4, .int .i64 td, .slice y.a0 ts.length y.c0, .slice y.a1 es.length y.c1, .slice y.a2 0 y.c2, .slice y.a3 0 y.c3, .slice y.a4 0 y.c4, .int .i64 td, .string ⟨#[]⟩, .int .i64 0, .int .i64 R.dv, .int .i64 R.p, .int .i64 R.q, .int .i64 R.g, .int .i64 R.op, .int .i64 R.is, .int .i64 R.ve, .slice none 0 0, .slice none 0 0, .int .i64 0, .slice none 0 0, .slice none 0 0] (0, 0) _ m50 Tryz.underlying40 rfl (by kernel_rfl) ?_))
  refine (HEQ.out ⟨ha2, ha3, none, none, none, hc2, hc3, 0, 0, 0⟩ ⟨hb2, hb3, none, none, none, hd2, hd3, 0, 0, 0⟩ x y _ ⟨(Dk.Sp.both q54).1, (Dk.Sp.both q54).2, Or.inl rfl, Or.inl rfl, Or.inl rfl⟩ ⟨(Dk.Sp.both q55).1, (Dk.Sp.both q55).2, Or.inl rfl, Or.inl rfl, Or.inl rfl⟩ (X _ (Of.Kp.of q52)) (Y _ (Of.Kp.of q52))).mono ?_
  generalize (v8.alloc (.cells #[.slice ha2 ts.length hc2, .slice ha3 es.length hc3, .slice none 0 0, .slice none 0 0, .slice none 0 0, .int .i64 td, .slice hb2 ts.length hd2, .slice hb3 es.length hd3, .slice none 0 0, .slice none 0 0, .slice none 0 0, .int .i64 td, .string ⟨#[]⟩, .int .i64 0, .int .i64 R.dv, .int .i64 R.p, .int .i64 R.q, .int .i64 R.g, .int .i64 R.op, .int .i64 R.is, .int .i64 R.ve, .slice none 0 0, .slice none 0 0, .int .i64 0, .slice none 0 0, .slice none 0 0] 40)) = v9 at *
  rintro e v10 ⟨rfl, Lv10⟩
  have m59 := Pk.kept Lv10 (Pk.lt_of m50) m50
  clear m50
  have m60 := Pk.kept Lv10 (Pk.lt_of m51) m51
  clear m51
  have m61 := Pk.kept Lv10 (Pk.lt_of m48) m48
  clear m48
  have q62 := Pk.join_below q52 Lv10
  clear q52
  have q63 := (⟨q53.1.on Lv10, q53.2.on Lv10⟩ : _ ∧ _)
  clear q53
  have q64 := q54.on Lv10
  clear q54
  have q65 := q55.on Lv10
  clear q55
  have L66 := Pk.join_below L56 Lv10
  clear L56
  have hs67 : v9.heap.size ≤ v10.heap.size := Lv10.size
  go_wp2_with (refine wpList_load_row rfl 40 _ rfl v3.heap.size rfl 40 #[.slice ga2 ts.length gc2, .slice ga3 es.length gc3, .slice none 0 0, .slice none 0 0, .slice none 0 0, .int .i64 td, .slice gb2 ts.length gd2, .slice gb3 es.length gd3, .slice none 0 0, .slice none 0 0, .slice none 0 0, .int .i64 td, .string ⟨#[]⟩, .int .i64 0, .int .i64 R.dv, .int .i64 R.p, .int .i64 R.q, .int .i64 R.g, .int .i64 R.op, .int .i64 R.is, .int .i64 R.ve, .slice none 0 0, .slice none 0 0, .int .i64 0, .slice none 0 0, .slice none 0 0] (0, 0) _ m60 Tryz.underlying40 rfl (by kernel_rfl) ?_)
  refine (HHD.out _ mid hi ga2 ga3 gb2 gb3 gc2 gc3 gd2 gd3 _ q63).mono ?_
  rintro e v11 ⟨rfl, Lv11⟩
  have m68 := Pk.kept Lv11 (Pk.lt_of m59) m59
  clear m59
  have m69 := Pk.kept Lv11 (Pk.lt_of m60) m60
  clear m60
  have m70 := Pk.kept Lv11 (Pk.lt_of m61) m61
  clear m61
  have q71 := Pk.join_below q62 Lv11
  clear q62
  have q72 := (⟨q63.1.on Lv11, q63.2.on Lv11⟩ : _ ∧ _)
  clear q63
  have q73 := q64.on Lv11
  clear q64
  have q74 := q65.on Lv11
  clear q65
  have L75 := Pk.join_below L66 Lv11
  clear L66
  have hs76 : v10.heap.size ≤ v11.heap.size := Lv11.size
  go_wp2
  go_ret
  exact ⟨rfl, L75⟩

theorem errs {W : World} (hL : laidMetH Tryz.prog Rows.fnExactDeskStartRow.laid W) : Errs.ErrAt 0 W ∧ Errs.ErrAt 1 W := by
  have h0 : laidMet Tryz.prog [("loop.example/g00211/impl.errParams", Rows.laid_loop_example_g00211_impl_errParams), ("loop.example/g00211/impl.errSecret", Rows.laid_loop_example_g00211_impl_errSecret)] W := hL
  exact ⟨Errs.head h0 ⟨_, rfl⟩ (by kernel_rfl) (by kernel_rfl), Errs.head (laidMet.tail h0) ⟨_, rfl⟩ (by kernel_rfl) (by kernel_rfl)⟩

set_option maxRecDepth 100000 in
theorem contract (H : Type) (enc : TypeId × Value → H) (W : World) (base : Nat) (args : Array Value) (ds gs : List (DataW H)) (before : List MemPlace)
    (hval : ∀ (j : Nat) t v, Tryz.f3.params[j]? = some t → args[j]? = some v → Value.okWide Tryz.prog W .any base t v)
    (hW : DataW.Whole enc Tryz.prog Tryz.f3.params.toList Rows.fnExactDeskStartSpec.vars false W args.toList ds gs before) (hL : laidMetH Tryz.prog Rows.fnExactDeskStartRow.laid W) :
    Calls Tryz.prog 3 args W fun e W' => ∃ v, e = .returned v ∧ Rows.fnExactDeskStartSpec.post enc Tryz.prog Tryz.f3 false true false false W args v W' := by
  have hW' := hW
  obtain ⟨p, q, hA0, hV, rfl, hfz, hnd⟩ := hW
  have hA : DataW.TrodAll enc Tryz.prog W 0 (fun _ => true) true Tryz.f3.params.toList args.toList ds p := hA0
  rw [Tryz.params3] at hA hval
  obtain ⟨v0, vs0, d0, ds0, p0, q0, hargs, rfl, rfl, h0, r0⟩ := trodAll_cons hA
  obtain ⟨rfl, rfl, rfl⟩ := trodAll_nil r0
  obtain rfl : args = #[v0] := by cases args; simp_all
  have hlen := Errs.vars_len hV
  obtain ⟨g0, gs0, rfl, hl0⟩ := Errs.len_cons hlen
  obtain ⟨g1, gs1, rfl, hl1⟩ := Errs.len_cons hl0
  obtain rfl := List.length_eq_zero_iff.1 hl1
  have k0 := h0
  have lt0 : ∀ x ∈ p0, x.block < W.heap.size := by obtain ⟨m, hm⟩ := k0; exact DataW.trod_lt m _ _ _ hm
  obtain ⟨a0, rfl, rfl, rfl, w0⟩ := open_int Tryz.underlying3 (hval 0 3 v0 rfl rfl) h0
  clear hA0
  refine (walk a0 w0 W  (errs hL).1 (errs hL).2 ).mono fun e W' ⟨he, bel⟩ => ?_
  subst he
  exact ⟨_, rfl, _, _, _, [], _, _, hW', trodAll_mk1 (shut_bool Tryz.underlying4 _), (trodAll_cons_mk (Below.trod Errs.laidOut (by kernel_rfl) (of_decide_eq_true (by kernel_rfl)) k0 bel lt0) trodAll_mk0), (Below.trodVars Errs.laidOut bel (by kernel_rfl) hV), bel.frame _, fun h => by cases h⟩

theorem laid_met (os : Os) : laidMet Tryz.prog Rows.fnExactDeskStartRow.laid ((Errs.errW 1 Rows.laid_loop_example_g00211_impl_errSecret (Errs.errW 0 Rows.laid_loop_example_g00211_impl_errParams (World.holding Tryz.prog os ⟨#[], #[], []⟩))).forCall (fun _ _ => 0) ⟨#[], #[.int .i64 0], []⟩).memory :=
  laidMet_of_run' 8 (by kernel_rfl) (by kernel_rfl)

theorem reads (os : Os) {H : Type} (enc : TypeId × Value → H) : ∃ x, DataW.whole enc Tryz.prog ((Errs.errW 1 Rows.laid_loop_example_g00211_impl_errSecret (Errs.errW 0 Rows.laid_loop_example_g00211_impl_errParams (World.holding Tryz.prog os ⟨#[], #[], []⟩))).forCall (fun _ _ => 0) ⟨#[], #[.int .i64 0], []⟩).memory Tryz.f3.params.toList Rows.fnExactDeskStartSpec.vars false (#[.int .i64 0] : Array Value).toList 8 = some x :=
  Option.isSome_iff_exists.1 (by kernel_rfl)

set_option maxRecDepth 100000 in
theorem lifted (os : Os) (started : os.Started) (H : Type) (enc : TypeId × Value → H) (F : Stop.Interp) :
    ReturnsInHanded {} Tryz.checked os 3 .any ((OpenSpec.ofChange Rows.fnExactDeskStartSpec).preRow enc Tryz.prog Tryz.f3 Rows.fnExactDeskStartRow.domain false Rows.fnExactDeskStartRow.laid) (((OpenSpec.ofChange Rows.fnExactDeskStartSpec).at F).post enc Tryz.prog Tryz.f3 false true false false) := by
  obtain ⟨x, hx⟩ := reads os enc
  refine returnsInHanded_of_row (C := Tryz.checked) (s := OpenSpec.ofChange Rows.fnExactDeskStartSpec) Errs.own started (by kernel_rfl) Tryz.func3
    (witness_row_at (enc := enc) (C := Tryz.checked) false (Errs.errW 1 Rows.laid_loop_example_g00211_impl_errSecret (Errs.errW 0 Rows.laid_loop_example_g00211_impl_errParams (World.holding Tryz.prog os ⟨#[], #[], []⟩))) #[.int .i64 0] rfl (by kernel_rfl) (by kernel_rfl) (by kernel_rfl)
      (OpenSpec.preRow_of_cond 8 hx rfl (fun k hk => by cases hk) (by kernel_rfl) (laid_met os))) ?_
  intro W base args ds gs before hval hW _ _ _ hL _ _
  exact contract H enc W base args ds gs before hval hW hL

set_option maxRecDepth 100000 in
theorem said : Rows.FnExactDeskStartSaid :=
  OpenClaim.holds_of_cond 3 Tryz.f3 rfl rfl rfl rfl rfl rfl rfl ⟨rfl, rfl, rfl, rfl, rfl⟩ rfl rfl rfl rfl rfl (by kernel_rfl) Tryz.func3 (by kernel_rfl)
    (of_decide_eq_true (by kernel_rfl)) (by unfold Func.isWrapper; first | (rw [if_pos (by decide +kernel)]; kernel_rfl) | (rw [if_neg (by decide +kernel)]; exact ⟨rfl, rfl⟩))
    (fun os started H enc _ F => by rw [OpenClaim.pre_eq_preRow]; exact lifted os started H enc F)

theorem plain (f : FuncId) (fn : Func) (hf : Tryz.pinned.checked.prog.funcNamed "loop.example/g00211/laws.FnExactDeskStart" = some f) (hfn : Tryz.pinned.checked.prog.funcs[f]? = some fn) :
    false = Tryz.pinned.checked.prog.looks [] ∧ ∀ (j : Nat) t, fn.params[j]? = some t → Tryz.pinned.checked.prog.wantsStandIn t = false := by
  obtain rfl : f = 3 := Option.some.inj ((show Tryz.prog.funcNamed "loop.example/g00211/laws.FnExactDeskStart" = some 3 by kernel_rfl).symm.trans hf) |>.symm
  obtain rfl : fn = Tryz.f3 := (Option.some.inj (Tryz.func3.symm.trans hfn)).symm
  refine ⟨by kernel_rfl, fun j t ht => ?_⟩
  rw [Tryz.params3] at ht
  obtain rfl : t = 3 := by simpa using Array.mem_of_getElem? ht
  exact (show Tryz.prog.wantsStandIn 3 = false by kernel_rfl)

theorem card : Rows.FnExactDeskStartCardSaid :=
  Claim7.holds_tied_plain_at .later [] _ _ _ _ said (fun _ h => by cases h) (by kernel_rfl) (fun _ h => by cases h) fnExactDeskStart_row_tie rfl ⟨rfl, rfl⟩ (by kernel_rfl) rfl plain (by kernel_rfl)
end Go.Proofs.YtmoinacceildcaaGreatDoor.fnExactDeskStart
namespace Go.Proofs.YtmoinacceildcaaGreatDoor
theorem FnExactDeskStart_holds : Rows.FnExactDeskStartCardSaid := fnExactDeskStart.card
end Go.Proofs.YtmoinacceildcaaGreatDoor
