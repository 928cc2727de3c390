/- For every code the law of scanned squares answers true: the program's Paint of a drawn text is its model's; a text that is too long has none; of any other the square is right, turned by any quarters it is scanned as the text, and its heart tells by how many quarters it is to be turned back. No condition. -/
import Derived.Test.YtkhibgicejcmlacErrs
import Derived.ShutString
import Derived.Lib.SmallJoins
import Derived.Test.YtkhibgicejcmlacCurSqP
import Derived.Test.YtkhibgicejcmlacSqNeq
import Derived.Test.YtkhibgicejcmlacSqSpot
import Derived.Test.YtkhibgicejcmlacSqPaintQ
import Derived.Test.YtkhibgicejcmlacSqOk
import Derived.Test.YtkhibgicejcmlacCurBytes
namespace Go.Proofs.Ytkhibgicejcmlac.fnScanned
open Go.ChangeShapes Go.WideShapes Go.ChangeAt Go.RowKit Go.Joins
open Go.ChangeMaps (open_string shut_string)
set_option linter.unusedVariables false
set_option linter.unusedSimpArgs false

def IsRow (k : IntKind) (w : World) (a : Option Addr) (len cap : Nat) (zs : List Int) : Prop :=
  (a = none ∧ len = 0 ∧ cap = 0 ∧ zs = []) ∨
  ∃ x, a = some x ∧ len ≤ cap ∧ cap ≤ maxLen ∧ zs.length = cap ∧ (∀ i, i < zs.length → w.cell? (x.add i) = some (.int k (zs.getD i 0))) ∧ ∀ n ∈ zs, (Lit.int k n).wf = true

set_option maxRecDepth 100000 in
set_option maxHeartbeats 8000000 in
theorem walk (a0 : Option Addr) (len0 cap0 : Nat) (z0 : List Int) (w : World) (w0 : IsRow .u8 w a0 len0 cap0 z0)  :
    Calls Try.prog 5 #[.slice a0 len0 cap0] w fun e w' => e = .returned (.bool true) ∧ Below w.heap.size w w' := by
  by_cases hb : len0 ≤ 1048576
  · have B := Cur.bytes_of w a0 len0 cap0 z0 w0
    clear w0
    obtain ⟨c3, l3, u3, H3⟩ := Cur.at_is a0 len0 cap0 3 w hb (by omega) B
    have HA3 : Hid (_) := H3
    clear H3
    go_enter Try.func5, Try.ntmps5
    go_wp2_with fail
    refine (Cur.big_no a0 len0 cap0 _ hb).mono ?_
    rintro e w1 ⟨rfl, rfl⟩
    go_wp2_with fail
    refine (Sq.drawPaint _ a0 len0 cap0 hb B).mono ?_
    rintro e w2 ⟨⟨s, rfl, hs⟩, L2⟩
    have hsm : s.size ≤ maxLen := by unfold maxLen; omega
    have HIP : Hid (∀ W, _) := fun W => Sq.implPaint_val s W hsm
    have HSP : Hid (∀ W, _) := fun W => Sq.specPaint_val s W hsm
    have HN : Hid (¬ s.size ≤ 400 → Sq.pnV s = 0) := fun h => by unfold Sq.pnV; rw [if_neg h]
    have HY : Hid (s.size ≤ 400 → Sq.pnV s = 2 * (Sq.pH s : Int) + 1 ∧ Sq.ptV s = Sq.paintS s) := fun h => by unfold Sq.pnV Sq.ptV; rw [if_pos h, if_pos h]; exact ⟨rfl, rfl⟩
    obtain ⟨bt, hbt⟩ : ∃ b, decide (s.size ≤ 400) = b := ⟨_, rfl⟩
    rw [hbt] at HIP HSP
    unfold Sq.sqV at HIP HSP
    generalize Sq.pnV s = q at *
    generalize Sq.ptV s = t at *
    go_wp2_with fail
    with_reducible refine (HIP.out _).mono ?_
    rintro e w3 ⟨rfl, L3⟩
    have K3 := Pk.join_below L2 L3
    have N4 := Pk.new_below w3 (.cells #[.int .i64 q, .string t] 29)
    have m4 : Sq.Box (w3.alloc (.cells #[.int .i64 q, .string t] 29)) w3.heap.size q t := Pk.heap_new _ _
    have K4 := Pk.join_below K3 N4
    clear L2 L3 K3 N4 B HIP
    go_wp2_with fail
    with_reducible refine (HSP.out _).mono ?_
    generalize w3.alloc (.cells #[.int .i64 q, .string t] 29) = w4 at *
    generalize w3.heap.size = P at *
    rintro e w5 ⟨rfl, L5⟩
    have m5 := m4.on L5
    have K5 := Pk.join_below K4 L5
    have N6 := Pk.new_below w5 (.cells #[.int .i64 q, .string t] 29)
    have x6 : Sq.Box (w5.alloc (.cells #[.int .i64 q, .string t] 29)) w5.heap.size q t := Pk.heap_new _ _
    have m6 := m5.on N6
    have K6 := Pk.join_below K5 N6
    clear m4 m5 K4 K5 L5 N6 HSP
    have b0 := m6.n
    have b1 := m6.s
    have d0 := x6.n
    have d1 := x6.s
    have nq : ∀ w', (binOp .neq 29 (.agg #[.int .i64 q, .string t]) (.agg #[.int .i64 q, .string t])).run Try.prog w' = .ok (.bool false) w' := fun w' => Sq.neq_same q t w'
    have nb : (bt != bt) = false := by simp
    by_cases h400 : s.size ≤ 400
    · have ebt : bt = true := by rw [← hbt]; exact decide_eq_true h400
      obtain ⟨rfl, rfl⟩ := HY.out h400
      obtain ⟨k, hk3, hk4⟩ : ∃ k : Nat, c3.tmod 4 = k ∧ k < 4 := ⟨(c3.tmod 4).toNat, by rw [Int.tmod_eq_emod_of_nonneg l3]; omega, by rw [Int.tmod_eq_emod_of_nonneg l3]; omega⟩
      have hbd := Sq.pH_bd s
      have hps := Sq.paint_size s
      have hs61 : (2 * Sq.pH s + 1) * (2 * Sq.pH s + 1) ≤ 61 * 61 := Nat.mul_le_mul (by omega) (by omega)
      have HTB : Hid (∀ W, _) := fun W => Sq.implTurnBy_val (2 * (Sq.pH s : Int) + 1) (Sq.paintS s) k W (WalkArith.wf_i64 (by omega)) (by omega)
      rw [show ((k : Int) % 4).toNat = k from by omega] at HTB
      have hrz : (Sq.turnN (2 * (Sq.pH s : Int) + 1) (Sq.paintS s) k).size ≤ maxLen := by rw [Sq.turnN_size]; unfold maxLen; omega
      have HSC : Hid (∀ W, _) := fun W => Sq.implScan_val (2 * (Sq.pH s : Int) + 1) (Sq.turnN (2 * (Sq.pH s : Int) + 1) (Sq.paintS s) k) W hrz
      rw [(Sq.scan_turned s h400 k hk4).1, (Sq.scan_turned s h400 k hk4).2] at HSC
      have HHE : Hid (∀ W, _) := fun W => Sq.implHeart_val (2 * (Sq.pH s : Int) + 1) (Sq.turnN (2 * (Sq.pH s : Int) + 1) (Sq.paintS s) k) W hrz
      rw [Sq.heart_back s k hk4] at HHE
      have HOK : Hid (∀ W, _) := fun W => Sq.implOk_val (2 * (Sq.pH s : Int) + 1) (Sq.paintS s) W (by unfold maxLen; omega)
      rw [Sq.paint_ok s] at HOK
      unfold Sq.sqV at HTB HSC HHE HOK
      have hm4 : Int.tmod (4 - (k : Int)) 4 = (((4 - k) % 4 : Nat) : Int) := by rw [Int.tmod_eq_emod_of_nonneg (by omega)]; omega
      clear HN HY hbt hps hs61 hbd
      generalize Sq.turnN (2 * (Sq.pH s : Int) + 1) (Sq.paintS s) k = r at *
      generalize Sq.paintS s = t at *
      generalize 2 * (Sq.pH s : Int) + 1 = q at *
      generalize (((4 - k) % 4 : Nat) : Int) = hv at *
      go_wp2_with fail
      generalize w5.alloc (.cells #[.int .i64 q, .string t] 29) = w6 at *
      generalize w5.heap.size = R at *
      refine (HA3.out _ K6).mono ?_
      rintro e w7 ⟨rfl, hw7⟩
      subst hw7
      clear HA3 nq nb d0 d1 x6
      go_wp2_with fail
      with_reducible refine (HTB.out _).mono ?_
      rintro e w8 ⟨rfl, L8⟩
      have m8 := m6.on L8
      have K8 := Pk.join_below K6 L8
      have N9 := Pk.new_below w8 (.cells #[.int .i64 q, .string r] 29)
      have x9 : Sq.Box (w8.alloc (.cells #[.int .i64 q, .string r] 29)) w8.heap.size q r := Pk.heap_new _ _
      have m9 := m8.on N9
      have K9 := Pk.join_below K8 N9
      clear b0 b1 m6 m8 K6 K8 L8 N9 HTB
      have d0 := x9.n
      have d1 := x9.s
      go_wp2_with fail
      with_reducible refine (HSC.out _).mono ?_
      generalize w8.alloc (.cells #[.int .i64 q, .string r] 29) = w9 at *
      generalize w8.heap.size = R2 at *
      rintro e w10 ⟨rfl, L10⟩
      have m10 := m9.on L10
      have x10 := x9.on L10
      have K10 := Pk.join_below K9 L10
      clear m9 x9 K9 L10 d0 d1 HSC
      have b0 := m10.n
      have b1 := m10.s
      go_wp2_with fail
      with_reducible refine (HOK.out _).mono ?_
      rintro e w11 ⟨rfl, L11⟩
      have x11 := x10.on L11
      have K11 := Pk.join_below K10 L11
      have d0 := x11.n
      have d1 := x11.s
      clear x10 m10 K10 L11 b0 b1 HOK
      go_wp2_with fail
      with_reducible refine (HHE.out _).mono ?_
      rintro e w12 ⟨rfl, L12⟩
      have K12 := Pk.join_below K11 L12
      go_wp2
      go_ret
      exact ⟨rfl, K12⟩
    · have ebt : bt = false := by rw [← hbt]; exact decide_eq_false h400
      have hq0 := HN.out h400
      clear HN HY hbt
      subst hq0
      subst ebt
      go_wp2
      go_ret
      exact ⟨rfl, K6⟩
  · go_enter Try.func5, Try.ntmps5
    go_wp2_with fail
    refine (Cur.big_yes a0 len0 cap0 _ hb).mono ?_
    rintro e w1 ⟨rfl, rfl⟩
    go_wp2
    go_ret
    exact ⟨rfl, Below.refl _ _⟩

set_option maxRecDepth 100000 in
theorem contract (H : Type) (enc : TypeId × Value → H) (W : World) (base : Nat) (args : Array Value) (ds gs : List (DataW H)) (before : List MemPlace)
    (hval : ∀ (j : Nat) t v, Try.f5.params[j]? = some t → args[j]? = some v → Value.okWide Try.prog W .any base t v)
    (hW : DataW.Whole enc Try.prog Try.f5.params.toList Rows.fnScannedSpec.vars false W args.toList ds gs before) :
    Calls Try.prog 5 args W fun e W' => ∃ v, e = .returned v ∧ Rows.fnScannedSpec.post enc Try.prog Try.f5 false true false false W args v W' := by
  have hW' := hW
  obtain ⟨p, q, hA0, hV, rfl, hfz, hnd⟩ := hW
  have hA : DataW.TrodAll enc Try.prog W 0 (fun _ => true) true Try.f5.params.toList args.toList ds p := hA0
  rw [Try.params5] at hA hval
  obtain ⟨v0, vs0, d0, ds0, p0, q0, hargs, rfl, rfl, h0, r0⟩ := trodAll_cons hA
  obtain ⟨rfl, rfl, rfl⟩ := trodAll_nil r0
  obtain rfl : args = #[v0] := by cases args; simp_all
  obtain ⟨rfl, rfl⟩ := trodVars_none hV
  have k0 := h0
  have lt0 : ∀ x ∈ p0, x.block < W.heap.size := by obtain ⟨m, hm⟩ := k0; exact DataW.trod_lt m _ _ _ hm
  obtain ⟨a0, len0, cap0, rfl⟩ := okWide_slice Try.underlying22 (hval 0 22 v0 rfl rfl)
  obtain ⟨z0, w0⟩ : ∃ zs, IsRow .u8 W a0 len0 cap0 zs := by
    obtain ⟨fuel, hf⟩ := h0
    rcases open_ints Try.underlying22 Try.underlying5 (by kernel_rfl) hf with ⟨hcs, _⟩ | ⟨x, l, c, zs, hcs, _, hl, hm, hz, _, hcell, hwz⟩
    · simp [Value.cells] at hcs
      obtain ⟨rfl, rfl, rfl⟩ := hcs
      exact ⟨[], .inl ⟨rfl, rfl, rfl, rfl⟩⟩
    · simp [Value.cells] at hcs
      obtain ⟨rfl, rfl, rfl⟩ := hcs
      exact ⟨zs, .inr ⟨_, rfl, hl, hm, by simpa using hz, hcell, hwz⟩⟩
  clear hA0
  refine (walk a0 len0 cap0 z0 W w0 ).mono fun e W' ⟨he, bel⟩ => ?_
  subst he
  exact ⟨_, rfl, _, _, _, [], _, [], hW', trodAll_mk1 (shut_bool Try.underlying4 _), (trodAll_cons_mk (Below.trod Errs.laidOut (by kernel_rfl) (of_decide_eq_true (by kernel_rfl)) k0 bel lt0) trodAll_mk0), rfl, bel.frame _, fun h => by cases h⟩

set_option maxRecDepth 100000 in
theorem lifted (os : Os) (started : os.Started) (H : Type) (enc : TypeId × Value → H) :
    ReturnsInHanded {} Try.checked os 5 .any (Rows.fnScannedSpec.pre6 enc Try.prog Try.f5 Rows.fnScannedRow.domain false) (Rows.fnScannedSpec.post enc Try.prog Try.f5 false true false false) := by
  refine returnsInHanded_of_change (C := Try.checked) Errs.own started (by kernel_rfl) Try.func5
    (ChangeSpec.witness6 (enc := enc) (C := Try.checked) false ⟨#[], #[.slice none 0 0], []⟩ 8 (by kernel_rfl) (by kernel_rfl) (by kernel_rfl) (by kernel_rfl)) ?_
  intro W base args ds gs before hval hW _ _
  exact contract H enc W base args ds gs before hval hW

set_option maxRecDepth 100000 in
theorem over : Rows.fnScannedRow.holds Try.pinned (OpenSpec.ofChange Rows.fnScannedSpec) :=
  OpenClaim.holds_of_wide 5 Try.f5 rfl rfl rfl rfl rfl rfl rfl ⟨rfl, rfl, rfl, rfl, rfl⟩ rfl rfl rfl rfl rfl (by kernel_rfl) Try.func5 (by kernel_rfl)
    (of_decide_eq_true (by kernel_rfl)) (by unfold Func.isWrapper; first | (rw [if_pos (by decide +kernel)]; kernel_rfl) | (rw [if_neg (by decide +kernel)]; exact ⟨rfl, rfl⟩))
    (fun os started H enc _ => lifted os started H enc)
end Go.Proofs.Ytkhibgicejcmlac.fnScanned
namespace Go.Proofs.Ytkhibgicejcmlac
theorem FnScanned_holds : Rows.FnScannedSaid := fnScanned.over
end Go.Proofs.Ytkhibgicejcmlac
