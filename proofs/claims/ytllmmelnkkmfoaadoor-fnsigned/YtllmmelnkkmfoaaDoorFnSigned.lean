/- For every code the law of FnSigned answers true: what is signed of what is drawn verifies under its open key, comes back from its text, and the draw that is told is the first that will do. The errors of the program's own variables are as its text lays them (the card ties them; over a pruned copy of the project). -/
import Derived.Test.YtllmmelnkkmfoaaDoorErrs
import Derived.ShutString
import Derived.Lib.SmallJoins
import Derived.Test.YtllmmelnkkmfoaaDoorCards
import Derived.Test.YtllmmelnkkmfoaaDoorTie
import Derived.Test.YtllmmelnkkmfoaaDoorCurKeys
import Derived.Test.YtllmmelnkkmfoaaDoorNumSigned
import Derived.Test.YtllmmelnkkmfoaaDoorSignVerify
import Derived.Test.YtllmmelnkkmfoaaDoorSignText
import Derived.Test.YtllmmelnkkmfoaaDoorSignKey
import Derived.Test.YtllmmelnkkmfoaaDoorSignSign
import Derived.Test.YtllmmelnkkmfoaaDoorSignSpec4
import Derived.Test.YtllmmelnkkmfoaaDoorSignOnce4
namespace Go.Proofs.YtllmmelnkkmfoaaDoor.fnSigned
open Go.ChangeShapes Go.WideShapes Go.ChangeAt Go.RowKit Go.Joins
open Go.ChangeMaps (open_string shut_string)
set_option linter.unusedVariables false

def IsRow (k : IntKind) (w : World) (a : Option Addr) (len cap : Nat) (zs : List Int) : Prop :=
  (a = none ∧ len = 0 ∧ cap = 0 ∧ zs = []) ∨
  ∃ x, a = some x ∧ len ≤ cap ∧ cap ≤ maxLen ∧ zs.length = cap ∧ (∀ i, i < zs.length → w.cell? (x.add i) = some (.int k (zs.getD i 0))) ∧ ∀ n ∈ zs, (Lit.int k n).wf = true

set_option maxRecDepth 100000 in
set_option maxHeartbeats 1500000 in
theorem walk (a0 : Option Addr) (len0 cap0 : Nat) (z0 : List Int) (w : World) (w0 : IsRow .u8 w a0 len0 cap0 z0) (E_errParams : Errs.ErrAt 1 w) (E_errSecret : Errs.ErrAt 2 w) (E_errOpen : Errs.ErrAt 4 w) (E_errMark : Errs.ErrAt 5 w) (E_errText : Errs.ErrAt 3 w) (E_errDraw : Errs.ErrAt 0 w) :
    Calls Tryd.prog 4 #[.slice a0 len0 cap0] w fun e w' => e = .returned (.bool true) ∧ Below w.heap.size w w' := by
  by_cases hb : len0 ≤ 1048576
  · have B := Cur.bytes_of w a0 len0 cap0 z0 w0
    have hge := Tryd.eqGuardType36
    have hsh := Tryd.stoodInHeld36
    go_enter Tryd.func4, Tryd.ntmps4
    go_wp2_with fail
    refine (Cur.big_no a0 len0 cap0 _ hb).mono ?_
    rintro e w1 ⟨rfl, rfl⟩
    go_wp2_with fail
    refine (Cur.drawKeys _ a0 len0 cap0 hb B).mono ?_
    rintro e w2 ⟨⟨p, q, g, x, t, b, zs, rfl, hL, hx1, hx2, ht0, hzl, I2⟩, L2⟩
    have ht : t.size ≤ maxLen := by unfold maxLen; omega
    have hok := Cur.listed_ok hL
    have hbd := Cur.listed_bd hL
    obtain ⟨hkb, hki⟩ := Num.key_yes hok hx1 hx2
    have HT := Num.sign_told (t := t) (zs := zs) hok hx1 hx2 ht0 (by omega)
    have bP := Num.heap_new w2 (Num.pb p q g)
    have N2 := Num.new_below w2 (Num.pb p q g)
    have L3 := Num.join_below L2 N2
    have I3 := I2.on N2
    have HOK : Hid (∀ w, _ → _ → _) := fun w e1 e2 => Num.implOpenKey_val p q g x w e1 e2
    rw [hki, hkb] at HOK
    have HSI : Hid (∀ w, _ → _ → _ → _ → _ → _) := fun w i e1 e2 e3 e4 => Num.implSign_val p q g x t (some ⟨b, 0, none⟩) zs 6 w ht (by omega) i e1 e2 e3 e4
    have HSS : Hid (∀ w, _ → _) := fun w i => Num.specSign_val p q g x t (some ⟨b, 0, none⟩) zs 6 w ht (by omega) i
    rw [hzl] at HSI HSS
    have HIP : Hid (∀ w, _) := fun w => Num.implParamsOk_val p q g w
    rw [hok] at HIP
    have HSO : Hid (∀ k w, _ → _ → _ → _ → _) := fun k w e1 e2 e3 e4 => Num.implSignOnce_val p q g x k t w ht e1 e2 e3 e4
    have HVE : Hid (∀ o r s w, _ → _ → _ → _ → _) := fun o r s w e1 e2 e3 e4 => Num.implVerify_val p q g o r s t w ht e1 e2 e3 e4
    have HT2 : Hid (_) := HT
    clear N2 I2 hL hok hkb hki HT ht L2
    generalize Num.powV g x p = o at *
    go_wp2_with fail
    refine (HOK.out _ (E_errParams.on L3) (E_errSecret.on L3)).mono ?_
    rintro e w4 ⟨rfl, L4⟩
    have cP := Num.kept_new L4 bP
    have I4 := I3.on L4
    have L5 := Num.join_below L3 L4
    clear L3 L4 bP I3 HOK
    generalize w2.heap.size = P at *
    have c0 : w4.cell? ⟨P, 0, none⟩ = some (.int .i64 p) := Num.cell_at cP 0
    have c1 : w4.cell? ⟨P, 1, none⟩ = some (.int .i64 q) := Num.cell_at cP 1
    have c2 : w4.cell? ⟨P, 2, none⟩ = some (.int .i64 g) := Num.cell_at cP 2
    rcases HT2.out with hV | ⟨r, s, j, hV, hj, hfst, hr, hs, hver⟩
    · rw [hV] at HSI HSS
      clear hV HT2
      go_wp2_with fail
      refine (HSI.out _ I4 (E_errParams.on L5) (E_errSecret.on L5) (E_errText.on L5) (E_errDraw.on L5)).mono ?_
      rintro e w6 ⟨rfl, L6⟩
      have N6 := Num.new_below w6 (Num.mb 0 0)
      have m6 := Num.heap_new w6 (Num.mb 0 0)
      have dP := Num.kept_new N6 (Num.kept_new L6 cP)
      have I6 := (I4.on L6).on N6
      have L7 := Num.join_below (Num.join_below L5 L6) N6
      clear L5 L6 N6 cP I4 c0 c1 c2
      have c0 : (w6.alloc (Num.mb 0 0)).cell? ⟨P, 0, none⟩ = some (.int .i64 p) := Num.cell_at dP 0
      have c1 : (w6.alloc (Num.mb 0 0)).cell? ⟨P, 1, none⟩ = some (.int .i64 q) := Num.cell_at dP 1
      have c2 : (w6.alloc (Num.mb 0 0)).cell? ⟨P, 2, none⟩ = some (.int .i64 g) := Num.cell_at dP 2
      go_wp2_with fail
      refine (HSS.out _ I6).mono ?_
      rintro e w8 ⟨rfl, L8⟩
      have N8 := Num.new_below w8 (Num.mb 0 0)
      have m8 := Num.heap_new w8 (Num.mb 0 0)
      have k8 := Num.kept_new N8 (Num.kept_new L8 m6)
      have eP := Num.kept_new N8 (Num.kept_new L8 dP)
      have L9 := Num.join_below (Num.join_below L7 L8) N8
      clear L7 L8 N8 dP m6 I6 c0 c1 c2
      have c0 : (w8.alloc (Num.mb 0 0)).cell? ⟨P, 0, none⟩ = some (.int .i64 p) := Num.cell_at eP 0
      have c1 : (w8.alloc (Num.mb 0 0)).cell? ⟨P, 1, none⟩ = some (.int .i64 q) := Num.cell_at eP 1
      have c2 : (w8.alloc (Num.mb 0 0)).cell? ⟨P, 2, none⟩ = some (.int .i64 g) := Num.cell_at eP 2
      go_wp2_with fail
      refine (HIP.out _).mono ?_
      rintro e w10 ⟨rfl, L10⟩
      have f1 := Num.kept_new L10 k8
      have f2 := Num.kept_new L10 m8
      have L11 := Num.join_below L9 L10
      clear L9 L10 k8 m8 eP c0 c1 c2
      generalize w6.heap.size = M1 at *
      generalize w8.heap.size = M2 at *
      have d0 : w10.cell? ⟨M1, 0, none⟩ = some (.int .i64 0) := Num.cell_at f1 0
      have d1 : w10.cell? ⟨M1, 1, none⟩ = some (.int .i64 0) := Num.cell_at f1 1
      have d2 : w10.cell? ⟨M2, 0, none⟩ = some (.int .i64 0) := Num.cell_at f2 0
      have d3 : w10.cell? ⟨M2, 1, none⟩ = some (.int .i64 0) := Num.cell_at f2 1
      go_wp2
      go_ret
      exact ⟨rfl, L11⟩
    · rw [hV] at HSI HSS
      obtain ⟨hm8, hmr, hms⟩ := Num.mark_back r s hr hs
      have HFS : Hid (_) := hfst
      have HMT : Hid (∀ w, _) := fun w => Num.implMarkText_val r s w
      have HRM : Hid (∀ w, _) := fun w => Num.implReadMark_val (Num.markS r s) w (by rw [hm8]; unfold maxLen; omega)
      rw [hmr, hms, decide_eq_true hm8] at HRM
      have HVR : Hid (_) := hver
      clear hV HT2 hm8 hmr hms hver hfst
      generalize Num.markS r s = MS at *
      go_wp2_with fail
      refine (HSI.out _ I4 (E_errParams.on L5) (E_errSecret.on L5) (E_errText.on L5) (E_errDraw.on L5)).mono ?_
      rintro e w6 ⟨rfl, L6⟩
      have N6 := Num.new_below w6 (Num.mb r s)
      have m6 := Num.heap_new w6 (Num.mb r s)
      have dP := Num.kept_new N6 (Num.kept_new L6 cP)
      have I6 := (I4.on L6).on N6
      have L7 := Num.join_below (Num.join_below L5 L6) N6
      clear L5 L6 N6 cP I4 c0 c1 c2
      have c0 : (w6.alloc (Num.mb r s)).cell? ⟨P, 0, none⟩ = some (.int .i64 p) := Num.cell_at dP 0
      have c1 : (w6.alloc (Num.mb r s)).cell? ⟨P, 1, none⟩ = some (.int .i64 q) := Num.cell_at dP 1
      have c2 : (w6.alloc (Num.mb r s)).cell? ⟨P, 2, none⟩ = some (.int .i64 g) := Num.cell_at dP 2
      go_wp2_with fail
      refine (HSS.out _ I6).mono ?_
      rintro e w8 ⟨rfl, L8⟩
      have N8 := Num.new_below w8 (Num.mb r s)
      have m8 := Num.heap_new w8 (Num.mb r s)
      have k8 := Num.kept_new N8 (Num.kept_new L8 m6)
      have eP := Num.kept_new N8 (Num.kept_new L8 dP)
      have I8 := (I6.on L8).on N8
      have L9 := Num.join_below (Num.join_below L7 L8) N8
      clear L7 L8 N8 dP m6 I6 c0 c1 c2
      have c0 : (w8.alloc (Num.mb r s)).cell? ⟨P, 0, none⟩ = some (.int .i64 p) := Num.cell_at eP 0
      have c1 : (w8.alloc (Num.mb r s)).cell? ⟨P, 1, none⟩ = some (.int .i64 q) := Num.cell_at eP 1
      have c2 : (w8.alloc (Num.mb r s)).cell? ⟨P, 2, none⟩ = some (.int .i64 g) := Num.cell_at eP 2
      go_wp2_with fail
      refine (HIP.out _).mono ?_
      rintro e w10 ⟨rfl, L10⟩
      have f0 := Num.kept_new L10 eP
      have f1 := Num.kept_new L10 k8
      have f2 := Num.kept_new L10 m8
      have I10 := I8.on L10
      have L11 := Num.join_below L9 L10
      clear L9 L10 k8 m8 eP c0 c1 c2 I8
      generalize w6.heap.size = M1 at *
      generalize w8.heap.size = M2 at *
      have d0 : w10.cell? ⟨M1, 0, none⟩ = some (.int .i64 r) := Num.cell_at f1 0
      have d1 : w10.cell? ⟨M1, 1, none⟩ = some (.int .i64 s) := Num.cell_at f1 1
      have d2 : w10.cell? ⟨M2, 0, none⟩ = some (.int .i64 r) := Num.cell_at f2 0
      have d3 : w10.cell? ⟨M2, 1, none⟩ = some (.int .i64 s) := Num.cell_at f2 1
      go_wp2
      clear d0 d1 d2 d3 f2
      go_loopw [15] (fun i wr => ∃ (k : Nat), k ≤ j ∧ i = .int .i64 k ∧ Below w10.heap.size w10 wr) (fun i _ => j - (intOf i).toNat)
      case atStart => exact ⟨0, by omega, rfl, Below.refl _ _⟩
      case round =>
        obtain ⟨k, hk, rfl, LR⟩ := hrel
        have g0 := Num.kept_new LR f0
        have L12 := Num.join_below L11 LR
        by_cases hkj : k < j
        · have hkz : k < zs.length := by omega
          have hso := HFS.out k hkz hkj
          obtain ⟨b', o', hbe, hbl, hcz⟩ := (I10.on LR).at k hkz
          simp only [Option.some.injEq, Addr.mk.injEq] at hbe
          obtain ⟨rfl, rfl, -⟩ := hbe
          rw [Nat.zero_add] at hcz
          have HSK : Hid (∀ w, _ → _ → _ → _ → _) := fun w e1 e2 e3 e4 => HSO.out zs[k] w e1 e2 e3 e4
          rw [hso] at HSK
          generalize Num.soR p q g x t zs[k] = rr at *
          generalize Num.soS p q g x t zs[k] = ss at *
          generalize zs[k] = kk at *
          have c0 : wr.cell? ⟨P, 0, none⟩ = some (.int .i64 p) := Num.cell_at g0 0
          have c1 : wr.cell? ⟨P, 1, none⟩ = some (.int .i64 q) := Num.cell_at g0 1
          have c2 : wr.cell? ⟨P, 2, none⟩ = some (.int .i64 g) := Num.cell_at g0 2
          have hkl : (k : Int) < 6 := by omega
          have Ld := L12.drew
          have T1 := E_errParams.on Ld
          have T2 := E_errSecret.on Ld
          have T3 := E_errText.on Ld
          have T4 := E_errDraw.on Ld
          have Le := (Num.join_below L12 (Num.new_below wr (Num.mb 0 0))).drew
          have U1 := E_errParams.on Le
          have U2 := E_errSecret.on Le
          have U3 := E_errText.on Le
          have U4 := E_errDraw.on Le
          have hPw : P < wr.heap.size := (Array.getElem?_eq_some_iff.1 g0).1
          have hble : b < (wr.alloc (Num.mb 0 0)).heap.size := Nat.lt_of_lt_of_le hbl (Num.new_below wr (Num.mb 0 0)).size
          have hcze : (wr.alloc (Num.mb 0 0)).cell? ⟨b, k, none⟩ = some (.int .i64 kk) := by rw [(Num.new_below wr (Num.mb 0 0)).cell (p := ⟨b, k, none⟩) hbl]; exact hcz
          have nz1 : ¬ wr.heap.size = P := by omega
          have nz2 : ¬ P = wr.heap.size := by omega
          have nz3 : ¬ wr.heap.size = b := by omega
          have nz4 : ¬ b = wr.heap.size := by omega
          clear hso hkz Ld Le
          go_wp2
          go_region_held3 (fun w' => w'.cell? ⟨P, 0, none⟩ = some (.int .i64 p) ∧ w'.cell? ⟨P, 1, none⟩ = some (.int .i64 q) ∧ w'.cell? ⟨P, 2, none⟩ = some (.int .i64 g) ∧ w'.cell? ⟨b, k, none⟩ = some (.int .i64 kk)) (go_keep) (first
            | (go_at_call 17; (with_reducible refine (HSK.out _ T1 T2 T3 T4).mono ?_); rintro e w14 ⟨rfl, M14⟩; have L14 := Num.undrew M14; have q0 := Num.kept_new L14 g0; have x0 : w14.cell? ⟨P, 0, none⟩ = some (.int .i64 p) := Num.cell_at q0 0; have x1 : w14.cell? ⟨P, 1, none⟩ = some (.int .i64 q) := Num.cell_at q0 1; have x2 : w14.cell? ⟨P, 2, none⟩ = some (.int .i64 g) := Num.cell_at q0 2; have x3 : w14.cell? ⟨b, k, none⟩ = some (.int .i64 kk) := (by rw [L14.cell (p := ⟨b, k, none⟩) hbl]; exact hcz); have hPl : P < w14.heap.size := (Array.getElem?_eq_some_iff.1 q0).1; have hbl2 : b < w14.heap.size := Nat.lt_of_lt_of_le hbl L14.size; clear M14; have L15a := Num.join_below (Num.join_below LR L14) (Num.new_below w14 (Num.mb rr ss)))
            | (go_at_call 17; (with_reducible refine (HSK.out _ U1 U2 U3 U4).mono ?_); rintro e w14 ⟨rfl, M14⟩; have L14 := Num.undrew M14; have q0 := Num.kept_new L14 (Num.heap_old g0 (Num.mb 0 0)); have x0 : w14.cell? ⟨P, 0, none⟩ = some (.int .i64 p) := Num.cell_at q0 0; have x1 : w14.cell? ⟨P, 1, none⟩ = some (.int .i64 q) := Num.cell_at q0 1; have x2 : w14.cell? ⟨P, 2, none⟩ = some (.int .i64 g) := Num.cell_at q0 2; have x3 : w14.cell? ⟨b, k, none⟩ = some (.int .i64 kk) := (by rw [L14.cell (p := ⟨b, k, none⟩) hble]; exact hcze); have hPl : P < w14.heap.size := (Array.getElem?_eq_some_iff.1 q0).1; have hbl2 : b < w14.heap.size := Nat.lt_of_lt_of_le hble L14.size; clear M14; have mM := Num.kept_new L14 (Num.heap_new wr (Num.mb 0 0)); have v0 : w14.cell? ⟨wr.heap.size, 0, none⟩ = some (.int .i64 0) := Num.cell_at mM 0; have v1 : w14.cell? ⟨wr.heap.size, 1, none⟩ = some (.int .i64 0) := Num.cell_at mM 1; have y0 : w14.frozen? ⟨wr.heap.size, 0, none⟩ = false := Cur.cs_frozen mM 0; have y1 : w14.frozen? ⟨wr.heap.size, 1, none⟩ = false := Cur.cs_frozen mM 1; have LX := Num.join_below (Num.join_below LR (Num.new_below wr (Num.mb 0 0))) L14; have L15b := (LX.setCell (p := ⟨wr.heap.size, 0, none⟩) LR.size (.int .i64 rr)).setCell (p := ⟨wr.heap.size, 1, none⟩) LR.size (.int .i64 ss)))
          all_goals
            go_wp2
            go_roundw
            case rel => exact ⟨k + 1, by omega, by go_num, by first | exact L15a | exact L15b⟩
            case measure => simp [intOf]; omega
        · obtain rfl : k = j := by omega
          have h1 := Num.kept_new LR f1
          clear f0 f1 LR L11
          have d0 : wr.cell? ⟨M1, 0, none⟩ = some (.int .i64 r) := Num.cell_at h1 0
          have d1 : wr.cell? ⟨M1, 1, none⟩ = some (.int .i64 s) := Num.cell_at h1 1
          go_wp2_with fail
          refine (HMT.out _).mono ?_
          rintro e w14 ⟨rfl, L14⟩
          have g1 := Num.kept_new L14 g0
          have h2 := Num.kept_new L14 h1
          have L15 := Num.join_below L12 L14
          clear g0 h1 L12 L14 d0 d1
          go_wp2_with fail
          refine (HRM.out _).mono ?_
          rintro e w16 ⟨rfl, L16⟩
          have N16 := Num.new_below w16 (Num.mb r s)
          have m16 := Num.heap_new w16 (Num.mb r s)
          have g3 := Num.kept_new N16 (Num.kept_new L16 g1)
          have h3 := Num.kept_new N16 (Num.kept_new L16 h2)
          have L17 := Num.join_below (Num.join_below L15 L16) N16
          clear g1 h2 L15 L16 N16
          have c0 : (w16.alloc (Num.mb r s)).cell? ⟨P, 0, none⟩ = some (.int .i64 p) := Num.cell_at g3 0
          have c1 : (w16.alloc (Num.mb r s)).cell? ⟨P, 1, none⟩ = some (.int .i64 q) := Num.cell_at g3 1
          have c2 : (w16.alloc (Num.mb r s)).cell? ⟨P, 2, none⟩ = some (.int .i64 g) := Num.cell_at g3 2
          have d0 : (w16.alloc (Num.mb r s)).cell? ⟨M1, 0, none⟩ = some (.int .i64 r) := Num.cell_at h3 0
          have d1 : (w16.alloc (Num.mb r s)).cell? ⟨M1, 1, none⟩ = some (.int .i64 s) := Num.cell_at h3 1
          go_wp2_with fail
          refine (HVE.out o r s _ (E_errParams.on L17) (E_errOpen.on L17) (E_errMark.on L17) (E_errText.on L17)).mono ?_
          rw [HVR.out]
          rintro e w18 ⟨rfl, L18⟩
          have h4 := Num.kept_new L18 h3
          have m18 := Num.kept_new L18 m16
          have L19 := Num.join_below L17 L18
          clear c0 c1 c2 d0 d1 g3 h3 m16 L17 L18
          generalize w16.heap.size = M3 at *
          have d0 : w18.cell? ⟨M1, 0, none⟩ = some (.int .i64 r) := Num.cell_at h4 0
          have d1 : w18.cell? ⟨M1, 1, none⟩ = some (.int .i64 s) := Num.cell_at h4 1
          have d2 : w18.cell? ⟨M3, 0, none⟩ = some (.int .i64 r) := Num.cell_at m18 0
          have d3 : w18.cell? ⟨M3, 1, none⟩ = some (.int .i64 s) := Num.cell_at m18 1
          go_wp2
          go_ret
          exact ⟨rfl, L19⟩
  · go_enter Tryd.func4, Tryd.ntmps4
    go_wp2_with fail
    refine (Cur.big_yes a0 len0 cap0 _ hb).mono ?_
    rintro e w1 ⟨rfl, rfl⟩
    go_wp2
    go_ret
    exact ⟨rfl, Below.refl _ _⟩

theorem errs {W : World} (hL : laidMetH Tryd.prog Rows.fnSignedRow.laid W) : Errs.ErrAt 1 W ∧ Errs.ErrAt 2 W ∧ Errs.ErrAt 4 W ∧ Errs.ErrAt 5 W ∧ Errs.ErrAt 3 W ∧ Errs.ErrAt 0 W := by
  have h0 : laidMet Tryd.prog [("loop.example/g00211/impl.errParams", Rows.laid_loop_example_g00211_impl_errParams), ("loop.example/g00211/impl.errSecret", Rows.laid_loop_example_g00211_impl_errSecret), ("loop.example/g00211/impl.errOpen", Rows.laid_loop_example_g00211_impl_errOpen), ("loop.example/g00211/impl.errMark", Rows.laid_loop_example_g00211_impl_errMark), ("loop.example/g00211/impl.errText", Rows.laid_loop_example_g00211_impl_errText), ("loop.example/g00211/impl.errDraw", Rows.laid_loop_example_g00211_impl_errDraw)] W := hL
  exact ⟨Errs.head h0 ⟨_, rfl⟩ (by kernel_rfl) (by kernel_rfl), Errs.head (laidMet.tail h0) ⟨_, rfl⟩ (by kernel_rfl) (by kernel_rfl), Errs.head (laidMet.tail (laidMet.tail h0)) ⟨_, rfl⟩ (by kernel_rfl) (by kernel_rfl), Errs.head (laidMet.tail (laidMet.tail (laidMet.tail h0))) ⟨_, rfl⟩ (by kernel_rfl) (by kernel_rfl), Errs.head (laidMet.tail (laidMet.tail (laidMet.tail (laidMet.tail h0)))) ⟨_, rfl⟩ (by kernel_rfl) (by kernel_rfl), Errs.head (laidMet.tail (laidMet.tail (laidMet.tail (laidMet.tail (laidMet.tail h0))))) ⟨_, rfl⟩ (by kernel_rfl) (by kernel_rfl)⟩

set_option maxRecDepth 100000 in
theorem contract (H : Type) (enc : TypeId × Value → H) (W : World) (base : Nat) (args : Array Value) (ds gs : List (DataW H)) (before : List MemPlace)
    (hval : ∀ (j : Nat) t v, Tryd.f4.params[j]? = some t → args[j]? = some v → Value.okWide Tryd.prog W .any base t v)
    (hW : DataW.Whole enc Tryd.prog Tryd.f4.params.toList Rows.fnSignedSpec.vars false W args.toList ds gs before) (hL : laidMetH Tryd.prog Rows.fnSignedRow.laid W) :
    Calls Tryd.prog 4 args W fun e W' => ∃ v, e = .returned v ∧ Rows.fnSignedSpec.post enc Tryd.prog Tryd.f4 false true false false W args v W' := by
  have hW' := hW
  obtain ⟨p, q, hA0, hV, rfl, hfz, hnd⟩ := hW
  have hA : DataW.TrodAll enc Tryd.prog W 0 (fun _ => true) true Tryd.f4.params.toList args.toList ds p := hA0
  rw [Tryd.params4] at hA hval
  obtain ⟨v0, vs0, d0, ds0, p0, q0, hargs, rfl, rfl, h0, r0⟩ := trodAll_cons hA
  obtain ⟨rfl, rfl, rfl⟩ := trodAll_nil r0
  obtain rfl : args = #[v0] := by cases args; simp_all
  have hlen := Errs.vars_len hV
  obtain ⟨g0, gs0, rfl, hl0⟩ := Errs.len_cons hlen
  obtain ⟨g1, gs1, rfl, hl1⟩ := Errs.len_cons hl0
  obtain ⟨g2, gs2, rfl, hl2⟩ := Errs.len_cons hl1
  obtain ⟨g3, gs3, rfl, hl3⟩ := Errs.len_cons hl2
  obtain ⟨g4, gs4, rfl, hl4⟩ := Errs.len_cons hl3
  obtain ⟨g5, gs5, rfl, hl5⟩ := Errs.len_cons hl4
  obtain rfl := List.length_eq_zero_iff.1 hl5
  have k0 := h0
  have lt0 : ∀ x ∈ p0, x.block < W.heap.size := by obtain ⟨m, hm⟩ := k0; exact DataW.trod_lt m _ _ _ hm
  obtain ⟨a0, len0, cap0, rfl⟩ := okWide_slice Tryd.underlying22 (hval 0 22 v0 rfl rfl)
  obtain ⟨z0, w0⟩ : ∃ zs, IsRow .u8 W a0 len0 cap0 zs := by
    obtain ⟨fuel, hf⟩ := h0
    rcases open_ints Tryd.underlying22 Tryd.underlying5 (by kernel_rfl) hf with ⟨hcs, _⟩ | ⟨x, l, c, zs, hcs, _, hl, hm, hz, _, hcell, hwz⟩
    · simp [Value.cells] at hcs
      obtain ⟨rfl, rfl, rfl⟩ := hcs
      exact ⟨[], .inl ⟨rfl, rfl, rfl, rfl⟩⟩
    · simp [Value.cells] at hcs
      obtain ⟨rfl, rfl, rfl⟩ := hcs
      exact ⟨zs, .inr ⟨_, rfl, hl, hm, by simpa using hz, hcell, hwz⟩⟩
  clear hA0
  refine (walk a0 len0 cap0 z0 W w0 (errs hL).1 (errs hL).2.1 (errs hL).2.2.1 (errs hL).2.2.2.1 (errs hL).2.2.2.2.1 (errs hL).2.2.2.2.2).mono fun e W' ⟨he, bel⟩ => ?_
  subst he
  exact ⟨_, rfl, _, _, _, [], _, _, hW', trodAll_mk1 (shut_bool Tryd.underlying4 _), (trodAll_cons_mk (Below.trod Errs.laidOut (by kernel_rfl) (of_decide_eq_true (by kernel_rfl)) k0 bel lt0) trodAll_mk0), (Below.trodVars Errs.laidOut bel (by kernel_rfl) hV), bel.frame _, fun h => by cases h⟩

theorem laid_met (os : Os) : laidMet Tryd.prog Rows.fnSignedRow.laid ((Errs.errW 0 Rows.laid_loop_example_g00211_impl_errDraw (Errs.errW 3 Rows.laid_loop_example_g00211_impl_errText (Errs.errW 5 Rows.laid_loop_example_g00211_impl_errMark (Errs.errW 4 Rows.laid_loop_example_g00211_impl_errOpen (Errs.errW 2 Rows.laid_loop_example_g00211_impl_errSecret (Errs.errW 1 Rows.laid_loop_example_g00211_impl_errParams (World.holding Tryd.prog os ⟨#[], #[], []⟩))))))).forCall (fun _ _ => 0) ⟨#[], #[.slice none 0 0], []⟩).memory :=
  laidMet_of_run' 8 (by kernel_rfl) (by kernel_rfl)

theorem reads (os : Os) {H : Type} (enc : TypeId × Value → H) : ∃ x, DataW.whole enc Tryd.prog ((Errs.errW 0 Rows.laid_loop_example_g00211_impl_errDraw (Errs.errW 3 Rows.laid_loop_example_g00211_impl_errText (Errs.errW 5 Rows.laid_loop_example_g00211_impl_errMark (Errs.errW 4 Rows.laid_loop_example_g00211_impl_errOpen (Errs.errW 2 Rows.laid_loop_example_g00211_impl_errSecret (Errs.errW 1 Rows.laid_loop_example_g00211_impl_errParams (World.holding Tryd.prog os ⟨#[], #[], []⟩))))))).forCall (fun _ _ => 0) ⟨#[], #[.slice none 0 0], []⟩).memory Tryd.f4.params.toList Rows.fnSignedSpec.vars false (#[.slice none 0 0] : Array Value).toList 8 = some x :=
  Option.isSome_iff_exists.1 (by kernel_rfl)

set_option maxRecDepth 100000 in
theorem lifted (os : Os) (started : os.Started) (H : Type) (enc : TypeId × Value → H) (F : Stop.Interp) :
    ReturnsInHanded {} Tryd.checked os 4 .any ((OpenSpec.ofChange Rows.fnSignedSpec).preRow enc Tryd.prog Tryd.f4 Rows.fnSignedRow.domain false Rows.fnSignedRow.laid) (((OpenSpec.ofChange Rows.fnSignedSpec).at F).post enc Tryd.prog Tryd.f4 false true false false) := by
  obtain ⟨x, hx⟩ := reads os enc
  refine returnsInHanded_of_row (C := Tryd.checked) (s := OpenSpec.ofChange Rows.fnSignedSpec) Errs.own started (by kernel_rfl) Tryd.func4
    (witness_row_at (enc := enc) (C := Tryd.checked) false (Errs.errW 0 Rows.laid_loop_example_g00211_impl_errDraw (Errs.errW 3 Rows.laid_loop_example_g00211_impl_errText (Errs.errW 5 Rows.laid_loop_example_g00211_impl_errMark (Errs.errW 4 Rows.laid_loop_example_g00211_impl_errOpen (Errs.errW 2 Rows.laid_loop_example_g00211_impl_errSecret (Errs.errW 1 Rows.laid_loop_example_g00211_impl_errParams (World.holding Tryd.prog os ⟨#[], #[], []⟩))))))) #[.slice none 0 0] rfl (by kernel_rfl) (by kernel_rfl) (by kernel_rfl)
      (OpenSpec.preRow_of_cond 8 hx rfl (fun k hk => by cases hk) (by kernel_rfl) (laid_met os))) ?_
  intro W base args ds gs before hval hW _ _ _ hL _ _
  exact contract H enc W base args ds gs before hval hW hL

set_option maxRecDepth 100000 in
theorem said : Rows.FnSignedSaid :=
  OpenClaim.holds_of_cond 4 Tryd.f4 rfl rfl rfl rfl rfl rfl rfl ⟨rfl, rfl, rfl, rfl, rfl⟩ rfl rfl rfl rfl rfl (by kernel_rfl) Tryd.func4 (by kernel_rfl)
    (of_decide_eq_true (by kernel_rfl)) (by unfold Func.isWrapper; first | (rw [if_pos (by decide +kernel)]; kernel_rfl) | (rw [if_neg (by decide +kernel)]; exact ⟨rfl, rfl⟩))
    (fun os started H enc _ F => by rw [OpenClaim.pre_eq_preRow]; exact lifted os started H enc F)

theorem plain (f : FuncId) (fn : Func) (hf : Tryd.pinned.checked.prog.funcNamed "loop.example/g00211/laws.FnSigned" = some f) (hfn : Tryd.pinned.checked.prog.funcs[f]? = some fn) :
    true = Tryd.pinned.checked.prog.looks [] ∧ ∀ (j : Nat) t, fn.params[j]? = some t → Tryd.pinned.checked.prog.wantsStandIn t = false := by
  obtain rfl : f = 4 := Option.some.inj ((show Tryd.prog.funcNamed "loop.example/g00211/laws.FnSigned" = some 4 by kernel_rfl).symm.trans hf) |>.symm
  obtain rfl : fn = Tryd.f4 := (Option.some.inj (Tryd.func4.symm.trans hfn)).symm
  refine ⟨by kernel_rfl, fun j t ht => ?_⟩
  rw [Tryd.params4] at ht
  obtain rfl : t = 22 := by simpa using Array.mem_of_getElem? ht
  exact (show Tryd.prog.wantsStandIn 22 = false by kernel_rfl)

theorem card : Rows.FnSignedCardSaid :=
  Claim7.holds_tied_plain_at .later [] _ _ _ _ said (fun _ h => by cases h) (by kernel_rfl) (fun _ h => by cases h) fnSigned_row_tie rfl ⟨rfl, rfl⟩ (by kernel_rfl) rfl plain (by kernel_rfl)
end Go.Proofs.YtllmmelnkkmfoaaDoor.fnSigned
namespace Go.Proofs.YtllmmelnkkmfoaaDoor
theorem FnSigned_holds : Rows.FnSignedCardSaid := fnSigned.card
end Go.Proofs.YtllmmelnkkmfoaaDoor
