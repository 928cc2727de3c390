/- For every code the law of spots answers true: a square of a drawn text in which one field is wrong is never scanned as that text; of a drawn square the program's Scan says what its model's says; where it says that it is fine, the square of the text is the drawn one turned as its heart tells, and else the text is empty. No condition. -/
import Derived.Test.YtkhibgicejcmlacErrs
import Derived.ShutString
import Derived.Lib.SmallJoins
import Derived.Test.YtkhibgicejcmlacCurSqP
import Derived.Test.YtkhibgicejcmlacSqNeq
import Derived.Test.YtkhibgicejcmlacSqSpot
import Derived.Test.YtkhibgicejcmlacSqPaintQ
import Derived.Test.YtkhibgicejcmlacSqOk
import Derived.Test.YtkhibgicejcmlacCurBytes
namespace Go.Proofs.Ytkhibgicejcmlac.fnSpot
open Go.ChangeShapes Go.WideShapes Go.ChangeAt Go.RowKit Go.Joins
open Go.ChangeMaps (open_string shut_string)
set_option linter.unusedVariables false
set_option linter.unusedSimpArgs false

def IsRow (k : IntKind) (w : World) (a : Option Addr) (len cap : Nat) (zs : List Int) : Prop :=
  (a = none ∧ len = 0 ∧ cap = 0 ∧ zs = []) ∨
  ∃ x, a = some x ∧ len ≤ cap ∧ cap ≤ maxLen ∧ zs.length = cap ∧ (∀ i, i < zs.length → w.cell? (x.add i) = some (.int k (zs.getD i 0))) ∧ ∀ n ∈ zs, (Lit.int k n).wf = true

set_option maxRecDepth 100000 in
set_option maxHeartbeats 8000000 in
theorem walk (a0 : Option Addr) (len0 cap0 : Nat) (z0 : List Int) (w : World) (w0 : IsRow .u8 w a0 len0 cap0 z0)  :
    Calls Try.prog 6 #[.slice a0 len0 cap0] w fun e w' => e = .returned (.bool true) ∧ Below w.heap.size w w' := by
  by_cases hb : len0 ≤ 1048576
  · have B := Cur.bytes_of w a0 len0 cap0 z0 w0
    clear w0
    obtain ⟨c2, lb2, ub2, H2⟩ := Cur.at_is a0 len0 cap0 2 w hb (by omega) B
    obtain ⟨c3, lb3, ub3, H3⟩ := Cur.at_is a0 len0 cap0 3 w hb (by omega) B
    have HA2 : Hid (_) := H2
    have HA3 : Hid (_) := H3
    clear H2 H3
    go_enter Try.func6, Try.ntmps6
    go_wp2_with fail
    refine (Cur.big_no a0 len0 cap0 _ hb).mono ?_
    rintro e w1 ⟨rfl, rfl⟩
    go_wp2_with fail
    refine (Sq.drawPaint _ a0 len0 cap0 hb B).mono ?_
    rintro e w2 ⟨⟨s, rfl, hs⟩, L2⟩
    have hsm : s.size ≤ maxLen := by unfold maxLen; omega
    have HSP : Hid (∀ W, _) := fun W => Sq.specPaint_val s W hsm
    have HY : Hid (s.size ≤ 400 → Sq.pnV s = 2 * (Sq.pH s : Int) + 1 ∧ Sq.ptV s = Sq.paintS s) := fun h => by unfold Sq.pnV Sq.ptV; rw [if_pos h, if_pos h]; exact ⟨rfl, rfl⟩
    obtain ⟨bt, hbt⟩ : ∃ b, decide (s.size ≤ 400) = b := ⟨_, rfl⟩
    rw [hbt] at HSP
    unfold Sq.sqV at HSP
    generalize Sq.pnV s = q at *
    generalize Sq.ptV s = t at *
    go_wp2_with fail
    with_reducible refine (HSP.out _).mono ?_
    rintro e w3 ⟨rfl, L3⟩
    have K3 := Pk.join_below L2 L3
    have N4 := Pk.new_below w3 (.cells #[.int .i64 q, .string t] 29)
    have m4 : Sq.Box (w3.alloc (.cells #[.int .i64 q, .string t] 29)) w3.heap.size q t := Pk.heap_new _ _
    have K4 := Pk.join_below K3 N4
    clear L2 L3 K3 N4 HSP
    go_upto_if 26 with fail
    generalize w3.alloc (.cells #[.int .i64 q, .string t] 29) = w4 at *
    generalize w3.heap.size = P at *
    go_cut [5] from 6 (fun v wz => v = .bool bt ∧ Below w1.heap.size w1 wz)
    case first =>
      by_cases h400 : s.size ≤ 400
      · have ebt : bt = true := by rw [← hbt]; exact decide_eq_true h400
        obtain ⟨rfl, rfl⟩ := HY.out h400
        subst ebt
        have hbd := Sq.pH_bd s
        have hps := Sq.paint_size s
        have h81 := Sq.h25 hbd.1
        have hs61 : (2 * Sq.pH s + 1) * (2 * Sq.pH s + 1) ≤ 61 * 61 := Nat.mul_le_mul (by omega) (by omega)
        obtain ⟨i, hi1, hi2⟩ : ∃ i : Nat, Int.tmod (c2 * 256 + c3) ((Sq.paintS s).size : Int) = i ∧ i < (Sq.paintS s).size := by
          have h1 : 0 ≤ (c2 * 256 + c3) % ((Sq.paintS s).size : Int) := Int.emod_nonneg _ (by omega)
          have h2 : (c2 * 256 + c3) % ((Sq.paintS s).size : Int) < ((Sq.paintS s).size : Int) := Int.emod_lt_of_pos _ (by omega)
          exact ⟨((c2 * 256 + c3) % ((Sq.paintS s).size : Int)).toNat, by rw [Int.tmod_eq_emod_of_nonneg (by omega)]; omega, by omega⟩
        have hsg : (Sq.tb (Sq.paintS s) i).toNat = 48 ∨ (Sq.tb (Sq.paintS s) i).toNat = 49 := by
          unfold Sq.paintS
          rw [Sq.strT_at _ _ _ (by omega)]
          exact Sq.pSign_or _ _
        have hfl : ((97 - Sq.tb (Sq.paintS s) i).toNat : Int) = 97 - ((Sq.tb (Sq.paintS s) i).toNat : Int) := by
          rcases hsg with h1 | h1
          · rw [show Sq.tb (Sq.paintS s) i = 48 from UInt8.toNat_inj.1 h1]
            rfl
          · rw [show Sq.tb (Sq.paintS s) i = 49 from UInt8.toNat_inj.1 h1]
            rfl
        have zf : IntKind.u8.wrap (97 - ((Sq.tb (Sq.paintS s) i).toNat : Int)) = 97 - ((Sq.tb (Sq.paintS s) i).toNat : Int) := by rw [IntKind.wrap_u8]; omega
        obtain ⟨p, hp⟩ : ∃ p, Sq.strT (Sq.paintS s).size (fun j => if j = i then 97 - Sq.tb (Sq.paintS s) i else Sq.tb (Sq.paintS s) j) = p := ⟨_, rfl⟩
        have hpz : p.size = (Sq.paintS s).size := by rw [← hp, Sq.strT_size]
        have HNV : Hid (¬ (Sq.scC (2 * (Sq.pH s : Int) + 1) p = 0 ∧ Sq.scT (2 * (Sq.pH s : Int) + 1) p = s)) := by
          refine Sq.spot_never s p h400 i (by omega) (by omega) ?_
          intro j hj
          rw [← hp, Sq.strT_at _ _ _ (by omega)]
          by_cases e : j = i
          · rw [if_pos e, if_pos e, e]
          · rw [if_neg e, if_neg e]
        have HSC : Hid (∀ W, _) := fun W => Sq.implScan_val (2 * (Sq.pH s : Int) + 1) p W (by unfold maxLen; omega)
        unfold Sq.sqV at HSC
        have hz81 : 81 ≤ (Sq.paintS s).size ∧ (Sq.paintS s).size ≤ 3721 := by omega
        clear hps h81 hs61 hbd HY
        generalize Sq.scC (2 * (Sq.pH s : Int) + 1) p = sc at *
        generalize Sq.scT (2 * (Sq.pH s : Int) + 1) p = st at *
        generalize Sq.paintS s = t at *
        generalize 2 * (Sq.pH s : Int) + 1 = q at *
        obtain ⟨g, bcap, w6, hcv, hg1, hg2, L6, CL6⟩ := Sq.to_bytes w4 t
        have m6 := m4.on L6
        have K6 := Pk.join_below K4 L6
        have hPg : P ≠ g := by have := Pk.lt_of m4; omega
        have CL7 := CL6.set (f' := Sq.By (fun j => if j = i then 97 - Sq.tb t i else Sq.tb t j)) i (.int .u8 ((97 - Sq.tb t i).toNat : Int)) (fun j _ => by
          show Value.int .u8 _ = _
          by_cases e : j = i
          · simp [e]
          · simp [e])
        rw [hfl] at CL7
        have hcw := CL7.text (cap := bcap) (b := fun j => if j = i then 97 - Sq.tb t i else Sq.tb t j) (fun j _ => rfl)
        rw [hp] at hcw
        have r0 : w6.cell? ⟨g, i, none⟩ = some (.int .u8 ((Sq.tb t i).toNat : Int)) := (CL6 i hi2).1
        have r1 := (CL6 i hi2).2
        have m7 : Sq.Box (w6.setCell ⟨g, i, none⟩ (.int .u8 (97 - ((Sq.tb t i).toNat : Int)))) P q t := m6.off hPg
        have K7 : Below w1.heap.size w1 (w6.setCell ⟨g, i, none⟩ (.int .u8 (97 - ((Sq.tb t i).toNat : Int)))) := K6.setCell (p := ⟨g, i, none⟩) (by have := K4.size; show w1.heap.size ≤ g; omega) _
        have b0 := m4.n
        have b1 := m4.s
        have e0 := m7.n
        have hi3 : (0 : Int) ≤ (i : Int) := by omega
        have hi4 : (i : Int) < (t.size : Int) := by omega
        have htz : ¬ (t.size : Int) = 0 := by omega
        clear CL6 CL7 hp hfl hg1 hg2 L6
        generalize Sq.tb t i = tbi at *
        go_wp2_with fail
        refine (HA2.out _ K6).mono ?_
        rintro e x1 ⟨rfl, hx1⟩
        subst hx1
        go_wp2_with fail
        refine (HA3.out _ K6).mono ?_
        rintro e x1 ⟨rfl, hx1⟩
        subst hx1
        go_wp2_with fail
        with_reducible refine (HSC.out _).mono ?_
        rintro e w8 ⟨rfl, L8⟩
        have K8 := Pk.join_below K7 L8
        by_cases hsc : sc = 0
        · have hst : ¬ st = s := fun e => HNV.out ⟨hsc, e⟩
          have z1 : ¬ st.toList = s.toList := fun e => hst (Go.WideShapes.bytes_inj (by rw [← ByteArray.toList_eq, ← ByteArray.toList_eq]; exact e))
          have z2 : (st.toList == s.toList) = false := beq_eq_false_iff_ne.2 z1
          subst hsc
          go_wp2
          go_meet
          case rel => exact ⟨rfl, K8⟩
        · go_wp2
          go_meet
          case rel => exact ⟨rfl, K8⟩
      · have ebt : bt = false := by rw [← hbt]; exact decide_eq_false h400
        subst ebt
        go_wp2
        go_meet
        case rel => exact ⟨rfl, K4⟩
    case rest =>
      obtain ⟨rfl, KZ⟩ := hcut
      clear m4 K4 HY HA2 HA3 hbt lb2 ub2 lb3 ub3
      obtain ⟨wq, hwq⟩ : ∃ wq, wq = wc := ⟨_, rfl⟩
      subst hwq
      go_wp2_with fail
      refine (Sq.drawScan _ a0 len0 cap0 hb (B.on KZ)).mono ?_
      rintro e w5 ⟨⟨n, r, rfl, hr, hn⟩, L5⟩
      have K5 := Pk.join_below KZ L5
      have N6 := Pk.new_below w5 (.cells #[.int .i64 n, .string r] 29)
      have m6 : Sq.Box (w5.alloc (.cells #[.int .i64 n, .string r] 29)) w5.heap.size n r := Pk.heap_new _ _
      have K6 := Pk.join_below K5 N6
      have hrm : r.size ≤ maxLen := by unfold maxLen; omega
      have HIS : Hid (∀ W, _) := fun W => Sq.implScan_val n r W hrm
      have HSS : Hid (∀ W, _) := fun W => Sq.specScan_val n r W hrm
      have HHE : Hid (∀ W, _) := fun W => Sq.implHeart_val n r W hrm
      have hhb := Sq.heart_bd (n := n) (s := r)
      have HTB : Hid (∀ W, _) := fun W => Sq.implTurnBy_val n r (Sq.heartV n r) W (WalkArith.wf_i64 (by omega)) (by omega)
      rw [show Sq.turnN n r (Sq.heartV n r % 4).toNat = Sq.upS n r from rfl] at HTB
      have HF : Hid (Sq.scC n r = 0 → _) := fun h => Sq.scan_fine h
      have HE : Hid (¬ Sq.scC n r = 0 → _) := fun h => Sq.scan_empty h
      unfold Sq.sqV at HIS HSS HHE HTB
      clear L5 K5 N6 KZ hhb B
      have b0 := m6.n
      have b1 := m6.s
      go_wp2_with fail
      with_reducible refine (HIS.out _).mono ?_
      generalize w5.alloc (.cells #[.int .i64 n, .string r] 29) = w6 at *
      generalize w5.heap.size = R at *
      rintro e w7 ⟨rfl, L7⟩
      have m7 := m6.on L7
      have K7 := Pk.join_below K6 L7
      clear m6 K6 L7 b0 b1 HIS
      have b0 := m7.n
      have b1 := m7.s
      go_wp2_with fail
      with_reducible refine (HSS.out _).mono ?_
      rintro e w8 ⟨rfl, L8⟩
      have m8 := m7.on L8
      have K8 := Pk.join_below K7 L8
      clear m7 K7 L8 b0 b1 HSS
      have nc : (Sq.scC n r != Sq.scC n r) = false := by simp
      by_cases hC : Sq.scC n r = 0
      · obtain ⟨f1, f2, f3⟩ := HF.out hC
        have HIP : Hid (∀ W, _) := fun W => Sq.implPaint_val (Sq.scT n r) W (by unfold maxLen; omega)
        rw [f2, f3, decide_eq_true f1] at HIP
        unfold Sq.sqV at HIP
        clear HF HE f2 f3
        generalize Sq.scC n r = sc at *
        generalize Sq.scT n r = st at *
        generalize Sq.upS n r = us at *
        generalize Sq.heartV n r = hv at *
        subst hC
        go_wp2_with fail
        with_reducible refine (HIP.out _).mono ?_
        rintro e w9 ⟨rfl, L9⟩
        have m9 := m8.on L9
        have K9 := Pk.join_below K8 L9
        have N10 := Pk.new_below w9 (.cells #[.int .i64 n, .string us] 29)
        have x10 : Sq.Box (w9.alloc (.cells #[.int .i64 n, .string us] 29)) w9.heap.size n us := Pk.heap_new _ _
        have m10 := m9.on N10
        have K10 := Pk.join_below K9 N10
        clear m8 m9 K8 K9 L9 N10 HIP
        have eq : ∀ w', (binOp .eql 29 (.agg #[.int .i64 n, .string us]) (.agg #[.int .i64 n, .string us])).run Try.prog w' = .ok (.bool true) w' := fun w' => Sq.eql_same n us w'
        go_wp2
        generalize w9.alloc (.cells #[.int .i64 n, .string us] 29) = W at *
        generalize w9.heap.size = Q at *
        have b0 : W.cell? ⟨R, 0, none⟩ = some (.int .i64 n) := m10.n
        have b1 : W.cell? ⟨R, 1, none⟩ = some (.string r) := m10.s
        have d0 : W.cell? ⟨Q, 0, none⟩ = some (.int .i64 n) := x10.n
        have d1 : W.cell? ⟨Q, 1, none⟩ = some (.string us) := x10.s
        go_region_held3 (fun w' => w'.cell? ⟨R, 0, none⟩ = some (.int .i64 n) ∧ w'.cell? ⟨R, 1, none⟩ = some (.string r) ∧ w'.cell? ⟨Q, 0, none⟩ = some (.int .i64 n) ∧ w'.cell? ⟨Q, 1, none⟩ = some (.string us)) (go_keep) (first
          | (go_at_call 16; (with_reducible refine (HHE.out _).mono ?_); rintro e x1 ⟨rfl, L1⟩; have K1 : Below W.heap.size W x1 := (by first | exact L1 | exact ((Below.refl _ _).drew).trans L1); have p1 := m10.on K1; have p1_0 : x1.cell? ⟨R, 0, none⟩ = some (.int .i64 n) := p1.n; have p1_1 : x1.cell? ⟨R, 1, none⟩ = some (.string r) := p1.s; have r1 := x10.on K1; have r1_0 : x1.cell? ⟨Q, 0, none⟩ = some (.int .i64 n) := r1.n; have r1_1 : x1.cell? ⟨Q, 1, none⟩ = some (.string us) := r1.s)
          | (go_at_call 12; (with_reducible refine (HTB.out _).mono ?_); rintro e x2 ⟨rfl, L2⟩; have K2 : Below W.heap.size W x2 := (Pk.join_below K1 L2); have p2 := m10.on K2; have p2_0 : x2.cell? ⟨R, 0, none⟩ = some (.int .i64 n) := p2.n; have p2_1 : x2.cell? ⟨R, 1, none⟩ = some (.string r) := p2.s; have r2 := x10.on K2; have r2_0 : x2.cell? ⟨Q, 0, none⟩ = some (.int .i64 n) := r2.n; have r2_1 : x2.cell? ⟨Q, 1, none⟩ = some (.string us) := r2.s))
        all_goals
          have KF := Pk.join_below K10 K2
          go_wp2
          go_ret
          exact ⟨rfl, KF⟩
      · have hE := HE.out hC
        have nz : (Sq.scC n r != 0) = true := by simp [hC]
        clear HF HE HHE HTB
        generalize Sq.scC n r = sc at *
        rw [hE]
        go_wp2
        go_ret
        exact ⟨rfl, K8⟩
  · go_enter Try.func6, Try.ntmps6
    go_wp2_with fail
    refine (Cur.big_yes a0 len0 cap0 _ hb).mono ?_
    rintro e w1 ⟨rfl, rfl⟩
    go_wp2
    go_ret
    exact ⟨rfl, Below.refl _ _⟩

set_option maxRecDepth 100000 in
theorem contract (H : Type) (enc : TypeId × Value → H) (W : World) (base : Nat) (args : Array Value) (ds gs : List (DataW H)) (before : List MemPlace)
    (hval : ∀ (j : Nat) t v, Try.f6.params[j]? = some t → args[j]? = some v → Value.okWide Try.prog W .any base t v)
    (hW : DataW.Whole enc Try.prog Try.f6.params.toList Rows.fnSpotSpec.vars false W args.toList ds gs before) :
    Calls Try.prog 6 args W fun e W' => ∃ v, e = .returned v ∧ Rows.fnSpotSpec.post enc Try.prog Try.f6 false true false false W args v W' := by
  have hW' := hW
  obtain ⟨p, q, hA0, hV, rfl, hfz, hnd⟩ := hW
  have hA : DataW.TrodAll enc Try.prog W 0 (fun _ => true) true Try.f6.params.toList args.toList ds p := hA0
  rw [Try.params6] at hA hval
  obtain ⟨v0, vs0, d0, ds0, p0, q0, hargs, rfl, rfl, h0, r0⟩ := trodAll_cons hA
  obtain ⟨rfl, rfl, rfl⟩ := trodAll_nil r0
  obtain rfl : args = #[v0] := by cases args; simp_all
  obtain ⟨rfl, rfl⟩ := trodVars_none hV
  have k0 := h0
  have lt0 : ∀ x ∈ p0, x.block < W.heap.size := by obtain ⟨m, hm⟩ := k0; exact DataW.trod_lt m _ _ _ hm
  obtain ⟨a0, len0, cap0, rfl⟩ := okWide_slice Try.underlying22 (hval 0 22 v0 rfl rfl)
  obtain ⟨z0, w0⟩ : ∃ zs, IsRow .u8 W a0 len0 cap0 zs := by
    obtain ⟨fuel, hf⟩ := h0
    rcases open_ints Try.underlying22 Try.underlying5 (by kernel_rfl) hf with ⟨hcs, _⟩ | ⟨x, l, c, zs, hcs, _, hl, hm, hz, _, hcell, hwz⟩
    · simp [Value.cells] at hcs
      obtain ⟨rfl, rfl, rfl⟩ := hcs
      exact ⟨[], .inl ⟨rfl, rfl, rfl, rfl⟩⟩
    · simp [Value.cells] at hcs
      obtain ⟨rfl, rfl, rfl⟩ := hcs
      exact ⟨zs, .inr ⟨_, rfl, hl, hm, by simpa using hz, hcell, hwz⟩⟩
  clear hA0
  refine (walk a0 len0 cap0 z0 W w0 ).mono fun e W' ⟨he, bel⟩ => ?_
  subst he
  exact ⟨_, rfl, _, _, _, [], _, [], hW', trodAll_mk1 (shut_bool Try.underlying4 _), (trodAll_cons_mk (Below.trod Errs.laidOut (by kernel_rfl) (of_decide_eq_true (by kernel_rfl)) k0 bel lt0) trodAll_mk0), rfl, bel.frame _, fun h => by cases h⟩

set_option maxRecDepth 100000 in
theorem lifted (os : Os) (started : os.Started) (H : Type) (enc : TypeId × Value → H) :
    ReturnsInHanded {} Try.checked os 6 .any (Rows.fnSpotSpec.pre6 enc Try.prog Try.f6 Rows.fnSpotRow.domain false) (Rows.fnSpotSpec.post enc Try.prog Try.f6 false true false false) := by
  refine returnsInHanded_of_change (C := Try.checked) Errs.own started (by kernel_rfl) Try.func6
    (ChangeSpec.witness6 (enc := enc) (C := Try.checked) false ⟨#[], #[.slice none 0 0], []⟩ 8 (by kernel_rfl) (by kernel_rfl) (by kernel_rfl) (by kernel_rfl)) ?_
  intro W base args ds gs before hval hW _ _
  exact contract H enc W base args ds gs before hval hW

set_option maxRecDepth 100000 in
theorem over : Rows.fnSpotRow.holds Try.pinned (OpenSpec.ofChange Rows.fnSpotSpec) :=
  OpenClaim.holds_of_wide 6 Try.f6 rfl rfl rfl rfl rfl rfl rfl ⟨rfl, rfl, rfl, rfl, rfl⟩ rfl rfl rfl rfl rfl (by kernel_rfl) Try.func6 (by kernel_rfl)
    (of_decide_eq_true (by kernel_rfl)) (by unfold Func.isWrapper; first | (rw [if_pos (by decide +kernel)]; kernel_rfl) | (rw [if_neg (by decide +kernel)]; exact ⟨rfl, rfl⟩))
    (fun os started H enc _ => lifted os started H enc)
end Go.Proofs.Ytkhibgicejcmlac.fnSpot
namespace Go.Proofs.Ytkhibgicejcmlac
theorem FnSpot_holds : Rows.FnSpotSaid := fnSpot.over
end Go.Proofs.Ytkhibgicejcmlac
