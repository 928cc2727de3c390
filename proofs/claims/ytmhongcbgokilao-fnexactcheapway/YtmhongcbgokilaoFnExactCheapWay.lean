/- For every list of edges and every two numbers of stations the law of CheapWay answers true: the program's CheapWay and its model return the same stations, the program's in memory of its own, and no edge of the list is turned. No condition. -/
import Derived.Test.YtmhongcbgokilaoErrs
import Derived.ShutString
import Derived.Lib.SmallJoins
import Derived.Test.YtmhongcbgokilaoTfOpen
import Derived.Test.YtmhongcbgokilaoTfBaseS
import Derived.Test.YtmhongcbgokilaoTfMark
namespace Go.Proofs.Ytmhongcbgokilao.fnExactCheapWay
open Go.ChangeShapes Go.WideShapes Go.ChangeAt Go.RowKit Go.Joins
open Go.ChangeMaps (open_string shut_string)
set_option linter.unusedVariables false

set_option maxRecDepth 100000 in
set_option maxHeartbeats 4000000 in
theorem walk (a0 : Option Addr) (cap0 : Nat) (z0 : List Tf.Ed) (a1 : Int) (w1 : (Lit.int .i64 a1).wf = true) (a2 : Int) (w2 : (Lit.int .i64 a2).wf = true) (w : World) (w0 : Tf.Edges w a0 z0 ∧ z0.length ≤ maxLen)  :
    Calls Try.prog 6 #[.slice a0 z0.length cap0, .int .i64 a1, .int .i64 a2] w fun e w' => e = .returned (.bool true) ∧ Below w.heap.size w w' := by
  obtain ⟨I, hm⟩ := w0
  have HM : Hid (z0.length ≤ maxLen) := hm
  by_cases hb : z0.length ≤ 1048576
  · have hz : z0.length ≤ 1048576 := hb
    have hd : decide (1048576 - (z0.length : Int) < 0) = false := decide_eq_false (by omega)
    have hk0 : decide (1 + 3 * (z0.length : Int) < 0) = false := decide_eq_false (by omega)
    clear hm
    go_enter Try.func6, Try.ntmps6
    go_wp2_with fail
    refine (Tf.szEdgeS_yes a0 z0.length cap0 1048576 _ (by omega) (by omega)).mono ?_
    rintro e w1 ⟨rfl, rfl⟩
    go_wp2_with fail
    refine (Tf.toEdgeS_val a0 z0 cap0 _ hz I).mono ?_
    rintro e w2 ⟨rfl, L2, I2, -, -⟩
    go_wp2_with fail
    refine (Tf.specCheap_val _ z0 _ a1 a2 _ HM.out I2).mono ?_
    rintro e w3 ⟨x, va, vc, hx, rfl, hs, S3, L3⟩
    have K3 := Pk.join_below L2 L3
    have HI : Hid (∀ (ea : Option Addr) (ce : Nat) (w : World), Tf.Edges w ea z0 → Calls Try.prog 26 #[.slice ea z0.length ce, .int .i64 a1, .int .i64 a2] w fun e w' => ∃ ad cap, e = .returned (.tuple #[.slice ad (Tf.sOf x).length cap, .bool x.isSome]) ∧ Tf.Ints w' ad (Tf.sOf x) ∧ Below w.heap.size w w' ∧ ((Tf.sOf x).length = 0 ∨ ∃ g, ad = some ⟨g, 0, none⟩ ∧ Tf.Nw w.heap.size w' g)) := by
      intro ea ce w h
      refine (Tf.implCheap_val ea z0 ce a1 a2 w HM.out h).mono ?_
      rintro e w' ⟨y, ad, cap, hy, rfl, -, h1, h2, h3⟩
      obtain rfl := Tf.bw_one hx hy
      exact ⟨ad, cap, rfl, h1, h2, h3⟩
    clear I2 L2 L3 hx
    generalize x.isSome = B at *
    generalize Tf.sOf x = s at *
    have hq : s.length ≤ 1048576 := by omega
    have hk1 : decide (1 + (s.length : Int) < 0) = false := decide_eq_false (by omega)
    have HV : Hid (∀ b o, va = some ⟨b, o, none⟩ → s ≠ [] → b < w3.heap.size) := by
      intro b o hv hne
      rcases S3 with h | ⟨b', o', h1, h2, -⟩
      · exact absurd h hne
      · rw [hv] at h1
        simp only [Option.some.injEq, Addr.mk.injEq] at h1
        rw [h1.1]
        exact h2
    clear hs x
    go_wp2_with fail
    refine (Tf.toEdgeS_val a0 z0 cap0 _ hz (I.on K3)).mono ?_
    rintro e w4 ⟨rfl, L4, I4, h4, R4⟩
    have HK3 : Hid (w1.heap.size ≤ w3.heap.size) := K3.size
    have K4 := Pk.join_below K3 L4
    have S4 := S3.on L4
    clear K3 L4 S3
    go_wp2_with fail
    refine (HI.out _ _ _ I4).mono ?_
    rintro e w5 ⟨ga, gc, rfl, G5, L5, hf⟩
    have K5 := Pk.join_below K4 L5
    have S5 := S4.on L5
    have I5 := I4.on L5
    have R5 := R4.on L5 h4
    have h5 := Nat.lt_of_lt_of_le h4 L5.size
    have HG : Hid (∃ g, w3.heap.size ≤ g ∧ g < w5.heap.size ∧ (s.length = 0 ∨ (ga = some ⟨g, 0, none⟩ ∧ w4.heap.size ≤ g ∧ Pk.Room w5 g s.length))) := by
      rcases hf with h | ⟨g, rfl, h1, h2, h3⟩
      · exact ⟨w3.heap.size, Nat.le_refl _, h5, Or.inl h⟩
      · exact ⟨g, by omega, h2, Or.inr ⟨rfl, h1, G5.room h3⟩⟩
    obtain ⟨g, hg3, hg5, hgo⟩ := HG.out
    have HGO : Hid (_) := hgo
    have HA : Hid (s.length = 0 ∨ ga = some ⟨g, 0, none⟩) := hgo.imp_right fun h => h.1
    clear HG hf hgo K4 L5 S4 I4 R4
    go_wp2_with fail
    refine (Tf.eqIntS_same ga va s gc vc _ hq G5 S5).mono ?_
    rintro e w6 ⟨rfl, D6⟩
    have L6 := D6.below w5.heap.size
    have K6 := Pk.join_below K5 L6
    have S6 := S5.on L6
    have G6 := G5.on L6
    have I6 := I5.on L6
    have R6 := R5.on L6 h5
    have h6 := Nat.lt_of_lt_of_le h5 L6.size
    clear D6 K5 S5 G5 I5 R5
    go_wp2_with fail
    refine (Tf.toEdgeS_val a0 z0 cap0 _ hz (I.on K6)).mono ?_
    rintro e w7 ⟨rfl, L7, J7, -, -⟩
    have K7 := Pk.join_below K6 L7
    have S7 := S6.on L7
    have G7 := G6.on L7
    have I7 := I6.on L7
    have R7 := R6.on L7 h6
    have h7 := Nat.lt_of_lt_of_le h6 L7.size
    have M7 := Pk.join_below L6 L7
    clear K6 S6 G6 I6 R6 L6 L7
    go_wp2_with fail
    refine (Tf.eqEdgeS_same _ _ z0 _ _ _ hz I7 J7).mono ?_
    rintro e w8 ⟨rfl, L8⟩
    have K8 := Pk.join_below K7 L8
    have S8 := S7.on L8
    have G8 := G7.on L8
    have R8 := R7.on L8 h7
    have h8 := Nat.lt_of_lt_of_le h7 L8.size
    have M8 := Pk.join_below M7 L8
    clear K7 S7 G7 I7 J7 R7 L8 M7
    go_wp2_with fail
    refine (Tf.markEdgeS_val (some ⟨w3.heap.size, 0, none⟩) w3.heap.size z0.length _ _ hz (Or.inr ⟨rfl, R8⟩)).mono ?_
    rintro e w9 ⟨rfl, D9⟩
    have K9 := K8.trans (D9.below.mono HK3.out)
    have S9 := S8.band D9 fun b o hv hne => Or.inl (HV.out b o hv hne)
    have HGO9 : Hid (s.length = 0 ∨ (ga = some ⟨g, 0, none⟩ ∧ Pk.Room w9 g s.length)) := by
      rcases HGO.out with h | ⟨h1, h2, h3⟩
      · exact Or.inl h
      · refine Or.inr ⟨h1, fun j hj => ?_⟩
        have hb : w9.heap[g]? = w8.heap[g]? := D9.block g (by omega)
        rw [World.cell?_of_block (a := ⟨g, j, none⟩) hb, World.frozen?_of_block (a := ⟨g, j, none⟩) hb]
        exact (h3.on M8 hg5) j hj
    have G9 := G8.band D9 fun b o hv hne => by
      rcases HGO.out with h | ⟨h1, h2, -⟩
      · exact absurd (List.eq_nil_of_length_eq_zero h) hne
      · rw [h1] at hv
        simp only [Option.some.injEq, Addr.mk.injEq] at hv
        omega
    have hg9 : g < w9.heap.size := by have := D9.size; have := M8.size; omega
    clear K8 S8 G8 R8 D9 M8 HGO
    go_wp2_with fail
    refine (Tf.eqIntS_same ga va s gc vc _ hq G9 S9).mono ?_
    rintro e w10 ⟨rfl, D10⟩
    have L10 := D10.below w9.heap.size
    have K10 := Pk.join_below K9 L10
    have S10 := S9.on L10
    have HGO10 : Hid (s.length = 0 ∨ (ga = some ⟨g, 0, none⟩ ∧ Pk.Room w10 g s.length)) := HGO9.out.imp_right fun ⟨h1, h2⟩ => ⟨h1, h2.on L10 hg9⟩
    have hg10 := Nat.lt_of_lt_of_le hg9 L10.size
    clear K9 S9 G9 D10 L10 HGO9
    go_wp2_with fail
    refine (Tf.markIntS_val ga g s.length gc _ hq HGO10.out).mono ?_
    rintro e w11 ⟨rfl, D11, X11⟩
    have K11 := K10.trans (D11.below.mono (Nat.le_trans HK3.out hg3))
    have S11 := S10.band D11 fun b o hv hne => Or.inl (by have := HV.out b o hv hne; omega)
    have hg11 : g < w11.heap.size := by have := D11.size; omega
    clear K10 S10 D11 HGO10
    go_wp2_with fail
    refine (Tf.heldIntS_val ga g s.length gc _ hq HA.out X11).mono ?_
    rintro e w12 ⟨rfl, rfl⟩
    go_wp2_with fail
    refine (Tf.toEdgeS_val a0 z0 cap0 _ hz (I.on K11)).mono ?_
    rintro e w13 ⟨rfl, L13, I13, -, -⟩
    have K13 := Pk.join_below K11 L13
    have S13 := S11.on L13
    have X13 := X11.on L13 hg11
    have hg13 := Nat.lt_of_lt_of_le hg11 L13.size
    clear K11 S11 X11 L13
    go_wp2_with fail
    refine (HI.out _ _ _ I13).mono ?_
    rintro e w14 ⟨ha, hc, rfl, G14, L14, -⟩
    have K14 := Pk.join_below K13 L14
    have S14 := S13.on L14
    have X14 := X13.on L14 hg13
    have hg14 := Nat.lt_of_lt_of_le hg13 L14.size
    clear K13 S13 X13 L14 I13
    go_wp2_with fail
    refine (Tf.eqIntS_same ha va s hc vc _ hq G14 S14).mono ?_
    rintro e w15 ⟨rfl, D15⟩
    have L15 := D15.below w14.heap.size
    have K15 := Pk.join_below K14 L15
    have X15 := X14.on L15 hg14
    clear K14 S14 X14 L15 D15 G14
    go_wp2_with fail
    refine (Tf.heldIntS_val ga g s.length gc _ hq HA.out X15).mono ?_
    rintro e w16 ⟨rfl, rfl⟩
    go_wp2
    go_ret
    exact ⟨rfl, K15⟩
  · have HB : Hid (¬ z0.length ≤ 1048576) := hb
    clear hm hb
    go_enter Try.func6, Try.ntmps6
    go_wp2_with fail
    refine (Tf.szEdgeS_no a0 z0.length cap0 1048576 _ (by omega) (by omega) HM.out (by have := HB.out; omega)).mono ?_
    rintro e w1 ⟨rfl, rfl⟩
    go_wp2
    go_ret
    exact ⟨rfl, Below.refl _ _⟩

set_option maxRecDepth 100000 in
theorem contract (H : Type) (enc : TypeId × Value → H) (W : World) (base : Nat) (args : Array Value) (ds gs : List (DataW H)) (before : List MemPlace)
    (hval : ∀ (j : Nat) t v, Try.f6.params[j]? = some t → args[j]? = some v → Value.okWide Try.prog W .any base t v)
    (hW : DataW.Whole enc Try.prog Try.f6.params.toList Rows.fnExactCheapWaySpec.vars false W args.toList ds gs before) :
    Calls Try.prog 6 args W fun e W' => ∃ v, e = .returned v ∧ Rows.fnExactCheapWaySpec.post enc Try.prog Try.f6 false true false false W args v W' := by
  have hW' := hW
  obtain ⟨p, q, hA0, hV, rfl, hfz, hnd⟩ := hW
  have hA : DataW.TrodAll enc Try.prog W 0 (fun _ => true) true Try.f6.params.toList args.toList ds p := hA0
  rw [Try.params6] at hA hval
  obtain ⟨v0, vs0, d0, ds0, p0, q0, hargs, rfl, rfl, h0, r0⟩ := trodAll_cons hA
  obtain ⟨v1, vs1, d1, ds1, p1, q1, rfl, rfl, rfl, h1, r1⟩ := trodAll_cons r0
  obtain ⟨v2, vs2, d2, ds2, p2, q2, rfl, rfl, rfl, h2, r2⟩ := trodAll_cons r1
  obtain ⟨rfl, rfl, rfl⟩ := trodAll_nil r2
  obtain rfl : args = #[v0, v1, v2] := by cases args; simp_all
  obtain ⟨rfl, rfl⟩ := trodVars_none hV
  have k0 := h0
  have lt0 : ∀ x ∈ p0, x.block < W.heap.size := by obtain ⟨m, hm⟩ := k0; exact DataW.trod_lt m _ _ _ hm
  obtain ⟨a0, len0, cap0, rfl⟩ := okWide_slice Try.underlying34 (hval 0 34 v0 rfl rfl)
  obtain ⟨z0, w0, rfl⟩ : ∃ zs : List Tf.Ed, (Tf.Edges W a0 zs ∧ zs.length ≤ maxLen) ∧ zs.length = len0 := by
    obtain ⟨fuel, hf⟩ := h0
    obtain ⟨a, cap, ts, e, hh⟩ := Tf.edges_open hf
    simp [Value.cells] at e
    obtain ⟨rfl, rfl, rfl⟩ := e
    exact ⟨ts, ⟨hh.2, hh.1⟩, rfl⟩
  have k1 := h1
  have lt1 : ∀ x ∈ p1, x.block < W.heap.size := by obtain ⟨m, hm⟩ := k1; exact DataW.trod_lt m _ _ _ hm
  obtain ⟨a1, rfl, rfl, rfl, w1⟩ := open_int Try.underlying3 (hval 1 3 v1 rfl rfl) h1
  have k2 := h2
  have lt2 : ∀ x ∈ p2, x.block < W.heap.size := by obtain ⟨m, hm⟩ := k2; exact DataW.trod_lt m _ _ _ hm
  obtain ⟨a2, rfl, rfl, rfl, w2⟩ := open_int Try.underlying3 (hval 2 3 v2 rfl rfl) h2
  clear hA0
  refine (walk a0 cap0 z0 a1 w1 a2 w2 W w0 ).mono fun e W' ⟨he, bel⟩ => ?_
  subst he
  exact ⟨_, rfl, _, _, _, [], _, [], hW', trodAll_mk1 (shut_bool Try.underlying4 _), (trodAll_cons_mk (Below.trod Errs.laidOut (by kernel_rfl) (of_decide_eq_true (by kernel_rfl)) k0 bel lt0) (trodAll_cons_mk (Below.trod Errs.laidOut (by kernel_rfl) (of_decide_eq_true (by kernel_rfl)) k1 bel lt1) (trodAll_cons_mk (Below.trod Errs.laidOut (by kernel_rfl) (of_decide_eq_true (by kernel_rfl)) k2 bel lt2) trodAll_mk0))), rfl, bel.frame _, fun h => by cases h⟩

set_option maxRecDepth 100000 in
theorem lifted (os : Os) (started : os.Started) (H : Type) (enc : TypeId × Value → H) :
    ReturnsInHanded {} Try.checked os 6 .any (Rows.fnExactCheapWaySpec.pre6 enc Try.prog Try.f6 Rows.fnExactCheapWayRow.domain false) (Rows.fnExactCheapWaySpec.post enc Try.prog Try.f6 false true false false) := by
  refine returnsInHanded_of_change (C := Try.checked) Errs.own started (by kernel_rfl) Try.func6
    (ChangeSpec.witness6 (enc := enc) (C := Try.checked) false ⟨#[], #[.slice none 0 0, .int .i64 0, .int .i64 0], []⟩ 8 (by kernel_rfl) (by kernel_rfl) (by kernel_rfl) (by kernel_rfl)) ?_
  intro W base args ds gs before hval hW _ _
  exact contract H enc W base args ds gs before hval hW

set_option maxRecDepth 100000 in
theorem over : Rows.fnExactCheapWayRow.holds Try.pinned (OpenSpec.ofChange Rows.fnExactCheapWaySpec) :=
  OpenClaim.holds_of_wide 6 Try.f6 rfl rfl rfl rfl rfl rfl rfl ⟨rfl, rfl, rfl, rfl, rfl⟩ rfl rfl rfl rfl rfl (by kernel_rfl) Try.func6 (by kernel_rfl)
    (of_decide_eq_true (by kernel_rfl)) (by unfold Func.isWrapper; first | (rw [if_pos (by decide +kernel)]; kernel_rfl) | (rw [if_neg (by decide +kernel)]; exact ⟨rfl, rfl⟩))
    (fun os started H enc _ => lifted os started H enc)
end Go.Proofs.Ytmhongcbgokilao.fnExactCheapWay
namespace Go.Proofs.Ytmhongcbgokilao
theorem FnExactCheapWay_holds : Rows.FnExactCheapWaySaid := fnExactCheapWay.over
end Go.Proofs.Ytmhongcbgokilao
