/- For every list of controls and every list of places the law of Pick answers true: the program's Pick and its model return the same controls, the program's in memory of its own; nothing of what came in is turned, and a further call leaves the first answer as it was. No condition. -/
import Derived.Test.YtjjfleepnjhamaaErrs
import Derived.ShutString
import Derived.Lib.SmallJoins
import Derived.Test.YtjjfleepnjhamaaCePick
import Derived.Test.YtjjfleepnjhamaaCeCt
import Derived.Test.YtjjfleepnjhamaaCeIn
namespace Go.Proofs.Ytjjfleepnjhamaa.fnExactPick
open Go.ChangeShapes Go.WideShapes Go.ChangeAt Go.RowKit Go.Joins
open Go.ChangeMaps (open_string shut_string)
set_option linter.unusedVariables false
set_option linter.unusedSimpArgs false

def IsRow (k : IntKind) (w : World) (a : Option Addr) (len cap : Nat) (zs : List Int) : Prop :=
  (a = none ∧ len = 0 ∧ cap = 0 ∧ zs = []) ∨
  ∃ x, a = some x ∧ len ≤ cap ∧ cap ≤ maxLen ∧ zs.length = cap ∧ (∀ i, i < zs.length → w.cell? (x.add i) = some (.int k (zs.getD i 0))) ∧ ∀ n ∈ zs, (Lit.int k n).wf = true

theorem far_mine0 {lo hi lo' : Nat} {w : World} {x : Hn.Pl} {o : Hn.Ctr} {g1 g2 : Nat} (h : Hn.Mine lo' w x o g1 g2) (hh : hi ≤ lo') : Hn.Far lo hi x o :=
  Hn.Far.mine (hi := hi) ⟨h.ne, Nat.le_trans hh h.lo1, Nat.le_trans hh h.lo2, h.off, h.seen⟩

theorem far_ints {lo hi g : Nat} {zs : List Int} (h : g < lo ∨ hi ≤ g) : ∀ b o, (some ⟨g, 0, none⟩ : Option Addr) = some ⟨b, o, none⟩ → zs ≠ [] → b < lo ∨ hi ≤ b := by
  intro b o e _
  simp only [Option.some.injEq, Addr.mk.injEq] at e
  omega

theorem far_ctls {lo hi g : Nat} {zs : List Hn.Ct} (h : g < lo ∨ hi ≤ g) : ∀ b o, (some ⟨g, 0, none⟩ : Option Addr) = some ⟨b, o, none⟩ → zs ≠ [] → b < lo ∨ hi ≤ b := by
  intro b o e _
  simp only [Option.some.injEq, Addr.mk.injEq] at e
  omega


set_option maxRecDepth 100000 in
set_option maxHeartbeats 8000000 in
theorem walk (a0 : Option Addr) (cap0 : Nat) (z0 : List Hn.Ct) (a1 : Option Addr) (len1 cap1 : Nat) (z1 : List Int) (w : World) (w0 : Hn.Controls w a0 z0 ∧ z0.length ≤ maxLen ∧ Hn.Wfs z0) (w1 : IsRow .i64 w a1 len1 cap1 z1)   :
    Calls Try.prog 6 #[.slice a0 z0.length cap0, .slice a1 len1 cap1] w fun e w' => e = .returned (.bool true) ∧ Below w.heap.size w w' := by
  obtain ⟨I, hm0, -⟩ := w0
  have HM0 : Hid (z0.length ≤ maxLen) := hm0
  clear hm0
  obtain ⟨ys, hlen, J, hm⟩ : ∃ ys : List Int, ys.length = len1 ∧ Hn.Ints w a1 ys ∧ ys.length ≤ maxLen := by
    rcases w1 with ⟨rfl, rfl, rfl, rfl⟩ | ⟨x, rfl, h1, h2, h3, h4, -⟩
    · exact ⟨[], rfl, Or.inl rfl, by simp⟩
    · obtain ⟨ys, e, I⟩ := Hn.ints_row (len := len1) (by omega) h4
      exact ⟨ys, e, I, by omega⟩
  subst hlen
  clear w1 hm
  by_cases hb2 : ys.length ≤ 1048576
  · have hdl : decide ((1048576 : Int) < (ys.length : Int)) = false := decide_eq_false (by omega)
    by_cases hb : z0.length ≤ 1048576
    · have HSZ : Hid (∀ W : World, _) := fun W => Hn.szControlS_yes a0 z0.length cap0 1048576 W (by omega) (by omega)
      have hd0 : decide (1048576 - (z0.length : Int) < 0) = false := decide_eq_false (by omega)
      have HTC : Hid (∀ (W : World), Hn.Controls W a0 z0 → _) := fun W h => Hn.toControlS_val a0 z0 cap0 W hb h
      have HTI : Hid (∀ (W : World), Hn.Ints W a1 ys → _) := fun W h => Hn.toIntS_val a1 ys cap1 W hb2 h
      have HEI : Hid (∀ (a b : Option Addr) (c1 c2 : Nat) (W : World), Hn.Ints W a ys → Hn.Ints W b ys → _) := fun a b c1 c2 W h k => Hn.eqIntS_same a b ys c1 c2 W hb2 h k
      have HEX : Hid (∀ (a b : Option Addr) (c1 c2 : Nat) (W : World), Hn.Controls W a z0 → Hn.Controls W b z0 → _) := fun a b c1 c2 W h k => Hn.eqControlS_same a b z0 c1 c2 W hb h k
      have HS : Hid (∀ (a : Option Addr) (c : Nat) (b : Option Addr) (d : Nat) (W : World), Hn.Controls W a z0 → Hn.Ints W b ys → _) := fun a c b d W h k => Hn.specPick_val a z0 c b ys d W hb hb2 h k
      have HI : Hid (∀ (a : Option Addr) (c : Nat) (b : Option Addr) (d : Nat) (W : World), Hn.Controls W a z0 → Hn.Ints W b ys → _) := fun a c b d W h k => Hn.implPick_val a z0 c b ys d W hb hb2 h k
      have HZ : Hid ((Hn.pickL z0 ys).length ≤ 1048576) := by show _ ≤ _; have := Hn.pick_len z0 ys; omega
      generalize Hn.pickL z0 ys = R at *
      have HE : Hid (∀ (a b : Option Addr) (c d : Nat) (W : World), Hn.Controls W a R → Hn.Controls W b R → _) := fun a b c d W h k => Hn.eqControlS_same a b R c d W HZ.out h k
      have hd : decide (1 + 6 * (R.length : Int) < 0) = false := decide_eq_false (by omega)
      have hdk : decide (1 + 6 * (z0.length : Int) + (ys.length : Int) < 0) = false := decide_eq_false (by omega)
      have HKB : Hid (1 + 6 * (z0.length : Int) ≤ 1152921504606846976) := by show _ ≤ _; omega
      have HYS : Hid (ys.length ≤ 1048576 ∧ z0.length ≤ 1048576) := ⟨hb2, hb⟩
      clear hb hb2
      go_enter Try.func6, Try.ntmps6
      go_wp2_with fail
      refine (HSZ.out _).mono ?_
      rintro e v0 ⟨rfl, hv0⟩
      subst hv0
      go_wp2_with fail
      refine (HTC.out _ I).mono ?_
      rintro e v1 ⟨rfl, Lv1, Cv1, hv1, Rv1⟩
      have L1 := Lv1
      have hs2 : v0.heap.size ≤ v1.heap.size := Lv1.size
      clear Rv1
      go_wp2_with fail
      refine (HTI.out _ (J.on L1)).mono ?_
      rintro e v2 ⟨rfl, Lv2, Cv2, hv2, Rv2⟩
      have q3 := Cv1.on Lv2
      clear Cv1
      have L4 := Pk.join_below L1 Lv2
      clear L1
      have hs5 : v1.heap.size ≤ v2.heap.size := Lv2.size
      clear Rv2
      go_wp2_with fail
      refine (HS.out _ _ _ _ _ q3 Cv2).mono ?_
      rintro e v3 ⟨vS, rfl, OS, Lv3⟩
      clear q3 Cv2
      have L6 := Pk.join_below L4 Lv3
      clear L4
      have hs7 : v2.heap.size ≤ v3.heap.size := Lv3.size
      obtain ⟨aS, cS, gS, rfl, IS, -⟩ := Hn.own_cown OS
      clear OS
      have HFS : Hid (∀ lo hi, v3.heap.size ≤ lo → Hn.FarC lo hi aS R) := fun lo hi h => Hn.FarC.of IS h
      go_wp2_with fail
      refine (HTC.out _ (I.on L6)).mono ?_
      rintro e v4 ⟨rfl, Lv4, Cv4, hv4, Rv4⟩
      have q8 := IS.on Lv4
      clear IS
      have L9 := Pk.join_below L6 Lv4
      clear L6
      have hs10 : v3.heap.size ≤ v4.heap.size := Lv4.size
      go_wp2_with fail
      refine (HTI.out _ (J.on L9)).mono ?_
      rintro e v5 ⟨rfl, Lv5, Cv5, hv5, Rv5⟩
      have q11 := q8.on Lv5
      clear q8
      have q12 := Cv4.on Lv5
      clear Cv4
      have q13 := Pk.Room.on Rv4 Lv5 (by omega)
      clear Rv4
      have L14 := Pk.join_below L9 Lv5
      clear L9
      have hs15 : v4.heap.size ≤ v5.heap.size := Lv5.size
      go_wp2_with fail
      refine (HI.out _ _ _ _ _ q12 Cv5).mono ?_
      rintro e v6 ⟨vG, rfl, OG, Lv6⟩
      have q16 := q11.on Lv6
      clear q11
      have q17 := q12.on Lv6
      clear q12
      have q18 := Pk.Room.on q13 Lv6 (by omega)
      clear q13
      have q19 := Cv5.on Lv6
      clear Cv5
      have q20 := Pk.Room.on Rv5 Lv6 (by omega)
      clear Rv5
      have L21 := Pk.join_below L14 Lv6
      clear L14
      have hs22 : v5.heap.size ≤ v6.heap.size := Lv6.size
      obtain ⟨aG, cG, gG, rfl, IG, MG⟩ := Hn.own_cown OG
      clear OG
      have HFG : Hid (∀ lo hi, hi ≤ v5.heap.size → Hn.FarC lo hi aG R) := fun lo hi h => Hn.FarC.mine MG h
      have HG1 : Hid (R.length = 0 ∨ (aG = some ⟨gG, 0, none⟩ ∧ gG < v6.heap.size)) := MG.pl.imp_right fun h => ⟨h.1, h.2.1⟩
      go_wp2_with fail
      refine (HE.out aG aS _ _ _ IG q16).mono ?_
      rintro e v7 ⟨rfl, Lv7⟩
      have q23 := q16.on Lv7
      clear q16
      have q24 := q17.on Lv7
      clear q17
      have q25 := Pk.Room.on q18 Lv7 (by omega)
      clear q18
      have q26 := q19.on Lv7
      clear q19
      have q27 := Pk.Room.on q20 Lv7 (by omega)
      clear q20
      have q28 := IG.on Lv7
      clear IG
      have q29 := MG.on Lv7
      clear MG
      have L30 := Pk.join_below L21 Lv7
      clear L21
      have hs31 : v6.heap.size ≤ v7.heap.size := Lv7.size
      go_wp2_with fail
      refine (HTC.out _ (I.on L30)).mono ?_
      rintro e v8 ⟨rfl, Lv8, Cv8, hv8, Rv8⟩
      have q32 := q23.on Lv8
      clear q23
      have q33 := q24.on Lv8
      clear q24
      have q34 := Pk.Room.on q25 Lv8 (by omega)
      clear q25
      have q35 := q26.on Lv8
      clear q26
      have q36 := Pk.Room.on q27 Lv8 (by omega)
      clear q27
      have q37 := q28.on Lv8
      clear q28
      have q38 := q29.on Lv8
      clear q29
      have L39 := Pk.join_below L30 Lv8
      clear L30
      have hs40 : v7.heap.size ≤ v8.heap.size := Lv8.size
      clear Rv8
      go_wp2_with fail
      refine (HEX.out _ _ _ _ _ q33 Cv8).mono ?_
      rintro e v9 ⟨rfl, Lv9⟩
      have q41 := q32.on Lv9
      clear q32
      have q42 := q33.on Lv9
      clear q33
      have q43 := Pk.Room.on q34 Lv9 (by omega)
      clear q34
      have q44 := q35.on Lv9
      clear q35
      have q45 := Pk.Room.on q36 Lv9 (by omega)
      clear q36
      have q46 := q37.on Lv9
      clear q37
      have q47 := q38.on Lv9
      clear q38
      have L48 := Pk.join_below L39 Lv9
      clear L39
      have hs49 : v8.heap.size ≤ v9.heap.size := Lv9.size
      clear Cv8
      go_wp2_with fail
      refine (HTI.out _ (J.on L48)).mono ?_
      rintro e v10 ⟨rfl, Lv10, Cv10, hv10, Rv10⟩
      have q50 := q41.on Lv10
      clear q41
      have q51 := q42.on Lv10
      clear q42
      have q52 := Pk.Room.on q43 Lv10 (by omega)
      clear q43
      have q53 := q44.on Lv10
      clear q44
      have q54 := Pk.Room.on q45 Lv10 (by omega)
      clear q45
      have q55 := q46.on Lv10
      clear q46
      have q56 := q47.on Lv10
      clear q47
      have L57 := Pk.join_below L48 Lv10
      clear L48
      have hs58 : v9.heap.size ≤ v10.heap.size := Lv10.size
      clear Rv10
      go_wp2_with fail
      refine (HEI.out _ _ _ _ _ q53 Cv10).mono ?_
      rintro e v11 ⟨rfl, Dv11⟩
      have Lv11 := Dv11.below v10.heap.size
      have q59 := q50.on Lv11
      clear q50
      have q60 := q51.on Lv11
      clear q51
      have q61 := Pk.Room.on q52 Lv11 (by omega)
      clear q52
      have q62 := q53.on Lv11
      clear q53
      have q63 := Pk.Room.on q54 Lv11 (by omega)
      clear q54
      have q64 := q55.on Lv11
      clear q55
      have q65 := q56.on Lv11
      clear q56
      have L66 := Pk.join_below L57 Lv11
      clear L57
      have hs67 : v10.heap.size ≤ v11.heap.size := Lv11.size
      clear Dv11
      clear Cv10
      go_wp2_with fail
      refine (Hn.markControlS_val (some ⟨v3.heap.size, 0, none⟩) v3.heap.size z0.length _ 1 _ (by have := HYS.out.2; omega) (by omega) (by omega) (Or.inr ⟨rfl, q61⟩)).mono ?_
      rintro e v12 ⟨rfl, B12, -, -⟩
      clear q61 q60
      have BB12 := Hn.Brd.band (lo := v3.heap.size) (hi := v3.heap.size + 1) B12 (Nat.le_refl _) (Nat.le_refl _)
      have q68 := Hn.Controls.brd q59 BB12 (HFS.out _ _ (by omega))
      clear q59
      have q69 := Hn.Ints.brd q62 BB12 (far_ints (by omega))
      clear q62
      have q70 := Hn.Room.brd q63 BB12 (by omega) (by omega)
      clear q63
      have q71 := Hn.Controls.brd q64 BB12 (HFG.out _ _ (by omega))
      clear q64
      have q72 := Hn.COwn.brd q65 BB12 (by omega)
      clear q65
      have L73 := BB12.below L66 (by omega) (by omega)
      clear L66
      have hs74 : v11.heap.size ≤ v12.heap.size := BB12.size
      go_wp2_with fail
      refine (Hn.markIntS_val (some ⟨v4.heap.size, 0, none⟩) v4.heap.size ys.length _ _ _ HYS.out.1 (by omega) HKB.out (Or.inr ⟨rfl, q70⟩)).mono ?_
      rintro e v13 ⟨rfl, B13, -, -⟩
      clear q70 q69
      have BB13 := Hn.Brd.band (lo := v4.heap.size) (hi := v4.heap.size + 1) B13 (Nat.le_refl _) (Nat.le_refl _)
      have q75 := Hn.Controls.brd q68 BB13 (HFS.out _ _ (by omega))
      clear q68
      have q76 := Hn.Controls.brd q71 BB13 (HFG.out _ _ (by omega))
      clear q71
      have q77 := Hn.COwn.brd q72 BB13 (by omega)
      clear q72
      have L78 := BB13.below L73 (by omega) (by omega)
      clear L73
      have hs79 : v12.heap.size ≤ v13.heap.size := BB13.size
      go_wp2_with fail
      refine (HE.out aG aS _ _ _ q76 q75).mono ?_
      rintro e v14 ⟨rfl, Lv14⟩
      have q80 := q75.on Lv14
      clear q75
      have q81 := q76.on Lv14
      clear q76
      have q82 := q77.on Lv14
      clear q77
      have L83 := Pk.join_below L78 Lv14
      clear L78
      have hs84 : v13.heap.size ≤ v14.heap.size := Lv14.size
      go_wp2_with fail
      refine (Hn.markC_val aG R gG _ v5.heap.size v6.heap.size _ (by have := HZ.out; omega) q82 (HG1.out.imp_right fun h => h.2)).mono ?_
      rintro e v15 ⟨rfl, Bv15, K15⟩
      clear q82 q81
      have q85 := Hn.Controls.brd q80 Bv15 (HFS.out _ _ (by omega))
      clear q80
      have L86 := Bv15.below L83 (by omega) (by omega)
      clear L83
      have hs87 : v14.heap.size ≤ v15.heap.size := Bv15.size
      go_wp2_with fail
      refine (Hn.heldControlS_val aG gG R.length _ 1 _ (by have := HZ.out; omega) (by omega) (by omega) (HG1.out.imp_right fun h => h.1) K15.md).mono ?_
      rintro e v16 ⟨rfl, Lv16⟩
      obtain rfl := Lv16
      go_wp2_with fail
      refine (HTC.out _ (I.on L86)).mono ?_
      rintro e v17 ⟨rfl, Lv17, Cv17, hv17, Rv17⟩
      have q88 := q85.on Lv17
      clear q85
      have q89 := K15.on Lv17
      clear K15
      have L90 := Pk.join_below L86 Lv17
      clear L86
      have hs91 : v16.heap.size ≤ v17.heap.size := Lv17.size
      clear Rv17
      go_wp2_with fail
      refine (HTI.out _ (J.on L90)).mono ?_
      rintro e v18 ⟨rfl, Lv18, Cv18, hv18, Rv18⟩
      have q92 := q88.on Lv18
      clear q88
      have q93 := q89.on Lv18
      clear q89
      have q94 := Cv17.on Lv18
      clear Cv17
      have L95 := Pk.join_below L90 Lv18
      clear L90
      have hs96 : v17.heap.size ≤ v18.heap.size := Lv18.size
      clear Rv18
      go_wp2_with fail
      refine (HI.out _ _ _ _ _ q94 Cv18).mono ?_
      rintro e v19 ⟨vH, rfl, OH, Lv19⟩
      clear q94 Cv18
      have q97 := q92.on Lv19
      clear q92
      have q98 := q93.on Lv19
      clear q93
      have L99 := Pk.join_below L95 Lv19
      clear L95
      have hs100 : v18.heap.size ≤ v19.heap.size := Lv19.size
      obtain ⟨aH, cH, gH, rfl, IH, -⟩ := Hn.own_cown OH
      clear OH
      go_wp2_with fail
      refine (HE.out aH aS _ _ _ IH q97).mono ?_
      rintro e v20 ⟨rfl, Lv20⟩
      have q101 := q97.on Lv20
      clear q97
      have q102 := q98.on Lv20
      clear q98
      have q103 := IH.on Lv20
      clear IH
      have L104 := Pk.join_below L99 Lv20
      clear L99
      have hs105 : v19.heap.size ≤ v20.heap.size := Lv20.size
      go_wp2_with fail
      refine (Hn.heldControlS_val aG gG R.length _ 1 _ (by have := HZ.out; omega) (by omega) (by omega) (HG1.out.imp_right fun h => h.1) q102.md).mono ?_
      rintro e v21 ⟨rfl, Lv21⟩
      obtain rfl := Lv21
      go_wp2
      go_ret
      exact ⟨rfl, L104⟩
    · have HB : Hid (¬ z0.length ≤ 1048576) := hb
      clear hb
      go_enter Try.func6, Try.ntmps6
      go_wp2_with fail
      refine (Hn.szControlS_no a0 z0.length cap0 1048576 _ (by omega) (by omega) HM0.out (by have := HB.out; omega)).mono ?_
      rintro e w1 ⟨rfl, rfl⟩
      go_wp2
      go_ret
      exact ⟨rfl, Below.refl _ _⟩
  · have hdl : decide ((1048576 : Int) < (ys.length : Int)) = true := decide_eq_true (by omega)
    clear hb2
    go_enter Try.func6, Try.ntmps6
    go_wp2
    go_ret
    exact ⟨rfl, Below.refl _ _⟩

set_option maxRecDepth 100000 in
theorem contract (H : Type) (enc : TypeId × Value → H) (W : World) (base : Nat) (args : Array Value) (ds gs : List (DataW H)) (before : List MemPlace)
    (hval : ∀ (j : Nat) t v, Try.f6.params[j]? = some t → args[j]? = some v → Value.okWide Try.prog W .any base t v)
    (hW : DataW.Whole enc Try.prog Try.f6.params.toList Rows.fnExactPickSpec.vars false W args.toList ds gs before) :
    Calls Try.prog 6 args W fun e W' => ∃ v, e = .returned v ∧ Rows.fnExactPickSpec.post enc Try.prog Try.f6 false true false false W args v W' := by
  have hW' := hW
  obtain ⟨p, q, hA0, hV, rfl, hfz, hnd⟩ := hW
  have hA : DataW.TrodAll enc Try.prog W 0 (fun _ => true) true Try.f6.params.toList args.toList ds p := hA0
  rw [Try.params6] at hA hval
  obtain ⟨v0, vs0, d0, ds0, p0, q0, hargs, rfl, rfl, h0, r0⟩ := trodAll_cons hA
  obtain ⟨v1, vs1, d1, ds1, p1, q1, rfl, rfl, rfl, h1, r1⟩ := trodAll_cons r0
  obtain ⟨rfl, rfl, rfl⟩ := trodAll_nil r1
  obtain rfl : args = #[v0, v1] := by cases args; simp_all
  obtain ⟨rfl, rfl⟩ := trodVars_none hV
  have k0 := h0
  have lt0 : ∀ x ∈ p0, x.block < W.heap.size := by obtain ⟨m, hm⟩ := k0; exact DataW.trod_lt m _ _ _ hm
  obtain ⟨a0, len0, cap0, rfl⟩ := okWide_slice Try.underlying23 (hval 0 23 v0 rfl rfl)
  obtain ⟨z0, w0, rfl⟩ : ∃ zs : List Hn.Ct, (Hn.Controls W a0 zs ∧ zs.length ≤ maxLen ∧ Hn.Wfs zs) ∧ zs.length = len0 := by
    obtain ⟨fuel, hf⟩ := h0
    obtain ⟨a, cap, ts, e, hh⟩ := Hn.controls_open hf
    simp [Value.cells] at e
    obtain ⟨rfl, rfl, rfl⟩ := e
    exact ⟨ts, ⟨hh.2.1, hh.1, hh.2.2⟩, rfl⟩
  have k1 := h1
  have lt1 : ∀ x ∈ p1, x.block < W.heap.size := by obtain ⟨m, hm⟩ := k1; exact DataW.trod_lt m _ _ _ hm
  obtain ⟨a1, len1, cap1, rfl⟩ := okWide_slice Try.underlying22 (hval 1 22 v1 rfl rfl)
  obtain ⟨z1, w1⟩ : ∃ zs, IsRow .i64 W a1 len1 cap1 zs := by
    obtain ⟨fuel, hf⟩ := h1
    rcases open_ints Try.underlying22 Try.underlying3 (by kernel_rfl) hf with ⟨hcs, _⟩ | ⟨x, l, c, zs, hcs, _, hl, hm, hz, _, hcell, hwz⟩
    · simp [Value.cells] at hcs
      obtain ⟨rfl, rfl, rfl⟩ := hcs
      exact ⟨[], .inl ⟨rfl, rfl, rfl, rfl⟩⟩
    · simp [Value.cells] at hcs
      obtain ⟨rfl, rfl, rfl⟩ := hcs
      exact ⟨zs, .inr ⟨_, rfl, hl, hm, by simpa using hz, hcell, hwz⟩⟩
  clear hA0
  refine (walk a0 cap0 z0 a1 len1 cap1 z1 W w0 w1  ).mono fun e W' ⟨he, bel⟩ => ?_
  subst he
  exact ⟨_, rfl, _, _, _, [], _, [], hW', trodAll_mk1 (shut_bool Try.underlying4 _), (trodAll_cons_mk (Below.trod Errs.laidOut (by kernel_rfl) (of_decide_eq_true (by kernel_rfl)) k0 bel lt0) (trodAll_cons_mk (Below.trod Errs.laidOut (by kernel_rfl) (of_decide_eq_true (by kernel_rfl)) k1 bel lt1) trodAll_mk0)), rfl, bel.frame _, fun h => by cases h⟩

set_option maxRecDepth 100000 in
theorem lifted (os : Os) (started : os.Started) (H : Type) (enc : TypeId × Value → H) :
    ReturnsInHanded {} Try.checked os 6 .any (Rows.fnExactPickSpec.pre6 enc Try.prog Try.f6 Rows.fnExactPickRow.domain false) (Rows.fnExactPickSpec.post enc Try.prog Try.f6 false true false false) := by
  refine returnsInHanded_of_change (C := Try.checked) Errs.own started (by kernel_rfl) Try.func6
    (ChangeSpec.witness6 (enc := enc) (C := Try.checked) false ⟨#[], #[.slice none 0 0, .slice none 0 0], []⟩ 8 (by kernel_rfl) (by kernel_rfl) (by kernel_rfl) (by kernel_rfl)) ?_
  intro W base args ds gs before hval hW _ _
  exact contract H enc W base args ds gs before hval hW

set_option maxRecDepth 100000 in
theorem over : Rows.fnExactPickRow.holds Try.pinned (OpenSpec.ofChange Rows.fnExactPickSpec) :=
  OpenClaim.holds_of_wide 6 Try.f6 rfl rfl rfl rfl rfl rfl rfl ⟨rfl, rfl, rfl, rfl, rfl⟩ rfl rfl rfl rfl rfl (by kernel_rfl) Try.func6 (by kernel_rfl)
    (of_decide_eq_true (by kernel_rfl)) (by unfold Func.isWrapper; first | (rw [if_pos (by decide +kernel)]; kernel_rfl) | (rw [if_neg (by decide +kernel)]; exact ⟨rfl, rfl⟩))
    (fun os started H enc _ => lifted os started H enc)
end Go.Proofs.Ytjjfleepnjhamaa.fnExactPick
namespace Go.Proofs.Ytjjfleepnjhamaa
theorem FnExactPick_holds : Rows.FnExactPickSaid := fnExactPick.over
end Go.Proofs.Ytjjfleepnjhamaa
