/- For every list of holds and every number of an order the law of Held answers true: the program's Held and its model return the same holds, the program's in memory of its own, and no hold of the list is turned. No condition. -/
import Derived.Test.YtikdganlpedbeaqErrs
import Derived.ShutString
import Derived.Lib.SmallJoins
import Derived.Test.YtikdganlpedbeaqSeKeep
import Derived.Test.YtikdganlpedbeaqSeRel
import Derived.Test.YtikdganlpedbeaqSeMark
namespace Go.Proofs.Ytikdganlpedbeaq.fnExactHeld
open Go.ChangeShapes Go.WideShapes Go.ChangeAt Go.RowKit Go.Joins
open Go.ChangeMaps (open_string shut_string)
set_option linter.unusedVariables false
set_option linter.unusedSimpArgs false

set_option maxRecDepth 100000 in
set_option maxHeartbeats 4000000 in
theorem walk (a0 : Option Addr) (cap0 : Nat) (z0 : List Se.Hl) (a1 : Int) (w1 : (Lit.int .i64 a1).wf = true) (w : World) (w0 : Se.Holds w a0 z0 ∧ z0.length ≤ maxLen ∧ Se.Wfs z0)  :
    Calls Try.prog 6 #[.slice a0 z0.length cap0, .int .i64 a1] w fun e w' => e = .returned (.bool true) ∧ Below w.heap.size w w' := by
  obtain ⟨I, hm, hwf⟩ := w0
  have HM : Hid (z0.length ≤ maxLen) := hm
  by_cases hb : z0.length ≤ 1048576
  · have hz : z0.length ≤ 1048576 := hb
    have hd : decide (1048576 - (z0.length : Int) < 0) = false := decide_eq_false (by omega)
    have hk0 : decide (1 + 7 * (z0.length : Int) < 0) = false := decide_eq_false (by omega)
    clear hm hwf
    have HSP : Hid (∀ (ea : Option Addr) (ce : Nat) (w : World), Se.Holds w ea z0 → Calls Try.prog 22 #[.slice ea z0.length ce, .int .i64 a1] w fun e w' => ∃ v, e = .returned v ∧ w'.ownsRow w.heap.size 43 7 v (z0.filter fun p => decide (p.od = a1)).length (Se.hcells (z0.filter fun p => decide (p.od = a1))) ∧ Below w.heap.size w w') := fun ea ce w h => Se.specHeld_val ea z0 ce a1 w (by omega) h
    have HIM : Hid (∀ (ea : Option Addr) (ce : Nat) (w : World), Se.Holds w ea z0 → Calls Try.prog 23 #[.slice ea z0.length ce, .int .i64 a1] w fun e w' => ∃ v, e = .returned v ∧ w'.ownsRow (w.heap.size + 1) 43 7 v (z0.filter fun p => decide (p.od = a1)).length (Se.hcells (z0.filter fun p => decide (p.od = a1))) ∧ Below w.heap.size w w') := fun ea ce w h => Se.implHeld_val ea z0 ce a1 w (by omega) h
    have hq : (z0.filter fun p => decide (p.od = a1)).length ≤ 1048576 := Nat.le_trans (List.length_filter_le _ _) hz
    generalize (z0.filter fun p => decide (p.od = a1)) = s at *
    have hk1 : decide (1 + 7 * (s.length : Int) < 0) = false := decide_eq_false (by omega)
    go_enter Try.func6, Try.ntmps6
    go_wp2_with fail
    refine (Se.szHoldS_yes a0 z0.length cap0 1048576 _ (by omega) (by omega)).mono ?_
    rintro e w1 ⟨rfl, rfl⟩
    go_wp2_with fail
    refine (Se.toHoldS_val a0 z0 cap0 _ hz I).mono ?_
    rintro e w2 ⟨rfl, L2, I2, -, -⟩
    go_wp2_with fail
    refine (HSP.out _ _ _ I2).mono ?_
    rintro e w3 ⟨vS, rfl, OS, L3⟩
    have K3 := Pk.join_below L2 L3
    obtain ⟨va, vc, rfl, S3⟩ := Se.own_holds OS
    have HV : Hid (∀ b o, va = some ⟨b, o, none⟩ → s ≠ [] → b < w3.heap.size) := by
      intro b o hv hne
      rcases S3 with h | ⟨b', o', h1, h2, -⟩
      · exact absurd h hne
      · rw [hv] at h1
        simp only [Option.some.injEq, Addr.mk.injEq] at h1
        rw [h1.1]
        exact h2
    clear I2 L2 L3 OS HSP
    go_wp2_with fail
    refine (Se.toHoldS_val a0 z0 cap0 _ hz (I.on K3)).mono ?_
    rintro e w4 ⟨rfl, L4, I4, h4, R4⟩
    have HK3 : Hid (w1.heap.size ≤ w3.heap.size) := K3.size
    have K4 := Pk.join_below K3 L4
    have S4 := S3.on L4
    clear K3 L4 S3
    go_wp2_with fail
    refine (HIM.out _ _ _ I4).mono ?_
    rintro e w5 ⟨vI, rfl, OI, L5⟩
    have K5 := Pk.join_below K4 L5
    have S5 := S4.on L5
    have I5 := I4.on L5
    have R5 := R4.on L5 h4
    have h5 := Nat.lt_of_lt_of_le h4 L5.size
    obtain ⟨ga, gc, rfl, G5⟩ := Se.own_holds OI
    have HG : Hid (∃ g, w3.heap.size < g ∧ g < w5.heap.size ∧ (s.length = 0 ∨ (ga = some ⟨g, 0, none⟩ ∧ Pk.Room w5 g (s.length * 7)))) ∨ Hid (s.length = 0) := by
      by_cases h0 : s.length = 0
      · exact Or.inr h0
      · obtain ⟨g, cap, hv, hb1, hg1, hr⟩ := Se.own_room OI (by omega)
        simp only [Value.slice.injEq] at hv
        exact Or.inl ⟨g, by omega, hg1, Or.inr ⟨hv.1, hr⟩⟩
    have HG : Hid (∃ g, w3.heap.size ≤ g ∧ g < w5.heap.size ∧ (s.length = 0 ∨ (ga = some ⟨g, 0, none⟩ ∧ w3.heap.size < g ∧ Pk.Room w5 g (s.length * 7)))) := by
      rcases HG with h | h
      · obtain ⟨g, h1, h2, h3⟩ := h.out
        exact ⟨g, by omega, h2, h3.imp_right fun ⟨h4, h5⟩ => ⟨h4, h1, h5⟩⟩
      · exact ⟨w3.heap.size, Nat.le_refl _, h5, Or.inl h.out⟩
    obtain ⟨g, hg3, hg5, hgo⟩ := HG.out
    have HGO : Hid (s.length = 0 ∨ (ga = some ⟨g, 0, none⟩ ∧ w3.heap.size < g ∧ Pk.Room w5 g (s.length * 7))) := hgo
    have HA : Hid (s.length = 0 ∨ ga = some ⟨g, 0, none⟩) := hgo.imp_right fun h => h.1
    clear HG hgo K4 L5 S4 I4 R4 OI
    go_wp2_with fail
    refine (Se.eqHoldS_same ga va s gc vc _ hq G5 S5).mono ?_
    rintro e w6 ⟨rfl, L6⟩
    have K6 := Pk.join_below K5 L6
    have S6 := S5.on L6
    have G6 := G5.on L6
    have I6 := I5.on L6
    have R6 := R5.on L6 h5
    have h6 := Nat.lt_of_lt_of_le h5 L6.size
    clear K5 S5 G5 I5 R5
    go_wp2_with fail
    refine (Se.toHoldS_val a0 z0 cap0 _ hz (I.on K6)).mono ?_
    rintro e w7 ⟨rfl, L7, J7, -, -⟩
    have K7 := Pk.join_below K6 L7
    have S7 := S6.on L7
    have G7 := G6.on L7
    have I7 := I6.on L7
    have R7 := R6.on L7 h6
    have h7 := Nat.lt_of_lt_of_le h6 L7.size
    have M7 := Pk.join_below L6 L7
    clear K6 S6 G6 I6 R6 L6 L7
    go_wp2_with fail
    refine (Se.eqHoldS_same _ _ z0 _ _ _ hz I7 J7).mono ?_
    rintro e w8 ⟨rfl, L8⟩
    have K8 := Pk.join_below K7 L8
    have S8 := S7.on L8
    have G8 := G7.on L8
    have R8 := R7.on L8 h7
    have h8 := Nat.lt_of_lt_of_le h7 L8.size
    have M8 := Pk.join_below M7 L8
    clear K7 S7 G7 I7 J7 R7 L8 M7
    go_wp2_with fail
    refine (Se.markHoldS_val (some ⟨w3.heap.size, 0, none⟩) w3.heap.size z0.length _ _ (by omega) (Or.inr ⟨rfl, R8⟩)).mono ?_
    rintro e w9 ⟨rfl, D9, -⟩
    have K9 := K8.trans (D9.below.mono HK3.out)
    have S9 := S8.band D9 fun b o hv hne => Or.inl (HV.out b o hv hne)
    have HGO9 : Hid (s.length = 0 ∨ (ga = some ⟨g, 0, none⟩ ∧ Pk.Room w9 g (s.length * 7))) := by
      rcases HGO.out with h | ⟨h1, h2, h3⟩
      · exact Or.inl h
      · exact Or.inr ⟨h1, Se.Room.band (h3.on M8 hg5) D9 (by omega)⟩
    have G9 := G8.band D9 fun b o hv hne => by
      rcases HGO.out with h | ⟨h1, h2, -⟩
      · exact absurd (List.eq_nil_of_length_eq_zero h) hne
      · rw [h1] at hv
        simp only [Option.some.injEq, Addr.mk.injEq] at hv
        omega
    have hg9 : g < w9.heap.size := by have := D9.size; have := M8.size; omega
    clear K8 S8 G8 R8 D9 M8 HGO
    go_wp2_with fail
    refine (Se.eqHoldS_same ga va s gc vc _ hq G9 S9).mono ?_
    rintro e w10 ⟨rfl, L10⟩
    have K10 := Pk.join_below K9 L10
    have S10 := S9.on L10
    have HGO10 : Hid (s.length = 0 ∨ (ga = some ⟨g, 0, none⟩ ∧ Pk.Room w10 g (s.length * 7))) := HGO9.out.imp_right fun ⟨h1, h2⟩ => ⟨h1, h2.on L10 hg9⟩
    have hg10 := Nat.lt_of_lt_of_le hg9 L10.size
    clear K9 S9 G9 L10 HGO9
    go_wp2_with fail
    refine (Se.markHoldS_val ga g s.length gc _ (by omega) HGO10.out).mono ?_
    rintro e w11 ⟨rfl, D11, X11⟩
    have K11 := K10.trans (D11.below.mono (Nat.le_trans HK3.out hg3))
    have S11 : Se.Holds w11 va s := S10.band D11 fun b o hv hne => Or.inl (by have := HV.out b o hv hne; omega)
    have hg11 : g < w11.heap.size := by have := D11.size; omega
    clear K10 S10 D11 HGO10
    go_wp2_with fail
    refine (Se.heldHoldS_val ga g s.length gc _ (by omega) HA.out X11).mono ?_
    rintro e w12 ⟨rfl, rfl⟩
    go_wp2_with fail
    refine (Se.toHoldS_val a0 z0 cap0 _ hz (I.on K11)).mono ?_
    rintro e w13 ⟨rfl, L13, I13, -, -⟩
    have K13 := Pk.join_below K11 L13
    have S13 := S11.on L13
    have X13 := X11.on L13 hg11
    have hg13 := Nat.lt_of_lt_of_le hg11 L13.size
    clear K11 S11 X11 L13
    go_wp2_with fail
    refine (HIM.out _ _ _ I13).mono ?_
    rintro e w14 ⟨vH, rfl, OH, L14⟩
    obtain ⟨ha, hc, rfl, G14⟩ := Se.own_holds OH
    have K14 := Pk.join_below K13 L14
    have S14 := S13.on L14
    have X14 := X13.on L14 hg13
    have hg14 := Nat.lt_of_lt_of_le hg13 L14.size
    clear K13 S13 X13 L14 I13 OH
    go_wp2_with fail
    refine (Se.eqHoldS_same ha va s hc vc _ hq G14 S14).mono ?_
    rintro e w15 ⟨rfl, L15⟩
    have K15 := Pk.join_below K14 L15
    have X15 := X14.on L15 hg14
    clear K14 S14 X14 L15 G14
    go_wp2_with fail
    refine (Se.heldHoldS_val ga g s.length gc _ (by omega) HA.out X15).mono ?_
    rintro e w16 ⟨rfl, rfl⟩
    go_wp2
    go_ret
    exact ⟨rfl, K15⟩
  · have HB : Hid (¬ z0.length ≤ 1048576) := hb
    clear hm hb
    go_enter Try.func6, Try.ntmps6
    go_wp2_with fail
    refine (Se.szHoldS_no a0 z0.length cap0 1048576 _ (by omega) (by omega) HM.out (by have := HB.out; omega)).mono ?_
    rintro e w1 ⟨rfl, rfl⟩
    go_wp2
    go_ret
    exact ⟨rfl, Below.refl _ _⟩

set_option maxRecDepth 100000 in
theorem contract (H : Type) (enc : TypeId × Value → H) (W : World) (base : Nat) (args : Array Value) (ds gs : List (DataW H)) (before : List MemPlace)
    (hval : ∀ (j : Nat) t v, Try.f6.params[j]? = some t → args[j]? = some v → Value.okWide Try.prog W .any base t v)
    (hW : DataW.Whole enc Try.prog Try.f6.params.toList Rows.fnExactHeldSpec.vars false W args.toList ds gs before) :
    Calls Try.prog 6 args W fun e W' => ∃ v, e = .returned v ∧ Rows.fnExactHeldSpec.post enc Try.prog Try.f6 false true false false W args v W' := by
  have hW' := hW
  obtain ⟨p, q, hA0, hV, rfl, hfz, hnd⟩ := hW
  have hA : DataW.TrodAll enc Try.prog W 0 (fun _ => true) true Try.f6.params.toList args.toList ds p := hA0
  rw [Try.params6] at hA hval
  obtain ⟨v0, vs0, d0, ds0, p0, q0, hargs, rfl, rfl, h0, r0⟩ := trodAll_cons hA
  obtain ⟨v1, vs1, d1, ds1, p1, q1, rfl, rfl, rfl, h1, r1⟩ := trodAll_cons r0
  obtain ⟨rfl, rfl, rfl⟩ := trodAll_nil r1
  obtain rfl : args = #[v0, v1] := by cases args; simp_all
  obtain ⟨rfl, rfl⟩ := trodVars_none hV
  have k0 := h0
  have lt0 : ∀ x ∈ p0, x.block < W.heap.size := by obtain ⟨m, hm⟩ := k0; exact DataW.trod_lt m _ _ _ hm
  obtain ⟨a0, len0, cap0, rfl⟩ := okWide_slice Try.underlying22 (hval 0 22 v0 rfl rfl)
  obtain ⟨z0, w0, rfl⟩ : ∃ zs : List Se.Hl, (Se.Holds W a0 zs ∧ zs.length ≤ maxLen ∧ Se.Wfs zs) ∧ zs.length = len0 := by
    obtain ⟨fuel, hf⟩ := h0
    obtain ⟨a, cap, ts, e, hh⟩ := Se.holds_open hf
    simp [Value.cells] at e
    obtain ⟨rfl, rfl, rfl⟩ := e
    exact ⟨ts, ⟨hh.2.1, hh.1, hh.2.2⟩, rfl⟩
  have k1 := h1
  have lt1 : ∀ x ∈ p1, x.block < W.heap.size := by obtain ⟨m, hm⟩ := k1; exact DataW.trod_lt m _ _ _ hm
  obtain ⟨a1, rfl, rfl, rfl, w1⟩ := open_int Try.underlying3 (hval 1 3 v1 rfl rfl) h1
  clear hA0
  refine (walk a0 cap0 z0 a1 w1 W w0 ).mono fun e W' ⟨he, bel⟩ => ?_
  subst he
  exact ⟨_, rfl, _, _, _, [], _, [], hW', trodAll_mk1 (shut_bool Try.underlying4 _), (trodAll_cons_mk (Below.trod Errs.laidOut (by kernel_rfl) (of_decide_eq_true (by kernel_rfl)) k0 bel lt0) (trodAll_cons_mk (Below.trod Errs.laidOut (by kernel_rfl) (of_decide_eq_true (by kernel_rfl)) k1 bel lt1) trodAll_mk0)), rfl, bel.frame _, fun h => by cases h⟩

set_option maxRecDepth 100000 in
theorem lifted (os : Os) (started : os.Started) (H : Type) (enc : TypeId × Value → H) :
    ReturnsInHanded {} Try.checked os 6 .any (Rows.fnExactHeldSpec.pre6 enc Try.prog Try.f6 Rows.fnExactHeldRow.domain false) (Rows.fnExactHeldSpec.post enc Try.prog Try.f6 false true false false) := by
  refine returnsInHanded_of_change (C := Try.checked) Errs.own started (by kernel_rfl) Try.func6
    (ChangeSpec.witness6 (enc := enc) (C := Try.checked) false ⟨#[], #[.slice none 0 0, .int .i64 0], []⟩ 8 (by kernel_rfl) (by kernel_rfl) (by kernel_rfl) (by kernel_rfl)) ?_
  intro W base args ds gs before hval hW _ _
  exact contract H enc W base args ds gs before hval hW

set_option maxRecDepth 100000 in
theorem over : Rows.fnExactHeldRow.holds Try.pinned (OpenSpec.ofChange Rows.fnExactHeldSpec) :=
  OpenClaim.holds_of_wide 6 Try.f6 rfl rfl rfl rfl rfl rfl rfl ⟨rfl, rfl, rfl, rfl, rfl⟩ rfl rfl rfl rfl rfl (by kernel_rfl) Try.func6 (by kernel_rfl)
    (of_decide_eq_true (by kernel_rfl)) (by unfold Func.isWrapper; first | (rw [if_pos (by decide +kernel)]; kernel_rfl) | (rw [if_neg (by decide +kernel)]; exact ⟨rfl, rfl⟩))
    (fun os started H enc _ => lifted os started H enc)
end Go.Proofs.Ytikdganlpedbeaq.fnExactHeld
namespace Go.Proofs.Ytikdganlpedbeaq
theorem FnExactHeld_holds : Rows.FnExactHeldSaid := fnExactHeld.over
end Go.Proofs.Ytikdganlpedbeaq
