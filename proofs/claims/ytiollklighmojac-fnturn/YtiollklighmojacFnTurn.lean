/- For every code the law of turns answers true: the program's TurnBy and SquareOk of a drawn square are its model's; a square that is not right stays as it is and has no heart; of one that is right a turn brings each field where it should be, four turns give it back, and turns add up. No condition. -/
import Derived.Test.YtiollklighmojacErrs
import Derived.ShutString
import Derived.Lib.SmallJoins
import Derived.Test.YtiollklighmojacCurSqT
import Derived.Test.YtiollklighmojacSqNeq
import Derived.Test.YtiollklighmojacSqHeart2
import Derived.Test.YtiollklighmojacSqDark
import Derived.Test.YtiollklighmojacCurBytes
namespace Go.Proofs.Ytiollklighmojac.fnTurn
open Go.ChangeShapes Go.WideShapes Go.ChangeAt Go.RowKit Go.Joins
open Go.ChangeMaps (open_string shut_string)
set_option linter.unusedVariables false
set_option linter.unusedSimpArgs false

def IsRow (k : IntKind) (w : World) (a : Option Addr) (len cap : Nat) (zs : List Int) : Prop :=
  (a = none ∧ len = 0 ∧ cap = 0 ∧ zs = []) ∨
  ∃ x, a = some x ∧ len ≤ cap ∧ cap ≤ maxLen ∧ zs.length = cap ∧ (∀ i, i < zs.length → w.cell? (x.add i) = some (.int k (zs.getD i 0))) ∧ ∀ n ∈ zs, (Lit.int k n).wf = true

set_option maxRecDepth 100000 in
set_option maxHeartbeats 8000000 in
theorem walk (a0 : Option Addr) (len0 cap0 : Nat) (z0 : List Int) (w : World) (w0 : IsRow .u8 w a0 len0 cap0 z0)  :
    Calls Try.prog 4 #[.slice a0 len0 cap0] w fun e w' => e = .returned (.bool true) ∧ Below w.heap.size w w' := by
  by_cases hb : len0 ≤ 1048576
  · have B := Cur.bytes_of w a0 len0 cap0 z0 w0
    clear w0
    obtain ⟨c3, l3, u3, H3⟩ := Cur.at_is a0 len0 cap0 3 w hb (by omega) B
    obtain ⟨c4, l4, u4, H4⟩ := Cur.at_is a0 len0 cap0 4 w hb (by omega) B
    obtain ⟨c5, l5, u5, H5⟩ := Cur.at_is a0 len0 cap0 5 w hb (by omega) B
    have HA3 : Hid (_) := H3
    have HA4 : Hid (_) := H4
    have HA5 : Hid (_) := H5
    clear H3 H4 H5
    go_enter Try.func4, Try.ntmps4
    go_wp2_with fail
    refine (Cur.big_no a0 len0 cap0 _ hb).mono ?_
    rintro e w1 ⟨rfl, rfl⟩
    go_wp2_with fail
    refine (Sq.drawTurnBy _ a0 len0 cap0 hb B).mono ?_
    rintro e w2 ⟨⟨q, s, m, rfl, hs, hq, hm⟩, L2⟩
    have hsm : s.size ≤ maxLen := by unfold maxLen; omega
    have HIT : Hid (∀ W, _) := fun W => Sq.implTurnBy_val q s m W hm (by omega)
    have HST : Hid (∀ W, _) := fun W => Sq.specTurnBy_val q s m W hm (by omega)
    have HIO : Hid (∀ W, _) := fun W => Sq.implOk_val q s W hsm
    have HSO : Hid (∀ W, _) := fun W => Sq.specOk_val q s W hsm
    have HRN : Hid (Sq.okQ q s = false → Sq.turnN q s (m % 4).toNat = s) := fun h => Sq.turnN_no h _
    unfold Sq.sqV at HIT HST HIO HSO
    generalize Sq.turnN q s (m % 4).toNat = r at *
    have N3 := Pk.new_below w2 (.cells #[.int .i64 q, .string s] 29)
    have m3 : Sq.Box (w2.alloc (.cells #[.int .i64 q, .string s] 29)) w2.heap.size q s := Pk.heap_new _ _
    have K3 := Pk.join_below L2 N3
    clear L2 N3 B
    obtain ⟨P, hP⟩ : ∃ P, w2.heap.size = P := ⟨_, rfl⟩
    rw [hP] at m3
    have b0 : (w2.alloc (.cells #[.int .i64 q, .string s] 29)).cell? ⟨P, 0, none⟩ = some (.int .i64 q) := m3.n
    have b1 : (w2.alloc (.cells #[.int .i64 q, .string s] 29)).cell? ⟨P, 1, none⟩ = some (.string s) := m3.s
    go_wp2_with fail
    try rw [hP]
    with_reducible refine (HIT.out _).mono ?_
    generalize w2.alloc (.cells #[.int .i64 q, .string s] 29) = w3 at *
    rintro e w4 ⟨rfl, L4⟩
    have m4 := m3.on L4
    have K4 := Pk.join_below K3 L4
    clear m3 K3 L4 b0 b1 hP HIT
    have N5 := Pk.new_below w4 (.cells #[.int .i64 q, .string r] 29)
    have mr : Sq.Box (w4.alloc (.cells #[.int .i64 q, .string r] 29)) w4.heap.size q r := Pk.heap_new _ _
    have mq := m4.on N5
    have K5 := Pk.join_below K4 N5
    clear m4 K4 N5
    go_wp2
    generalize w4.alloc (.cells #[.int .i64 q, .string r] 29) = W at *
    generalize w4.heap.size = R at *
    have b0 : W.cell? ⟨P, 0, none⟩ = some (.int .i64 q) := mq.n
    have b1 : W.cell? ⟨P, 1, none⟩ = some (.string s) := mq.s
    have d0 : W.cell? ⟨R, 0, none⟩ = some (.int .i64 q) := mr.n
    have d1 : W.cell? ⟨R, 1, none⟩ = some (.string r) := mr.s
    have nq : ∀ w', (binOp .neq 29 (.agg #[.int .i64 q, .string r]) (.agg #[.int .i64 q, .string r])).run Try.prog w' = .ok (.bool false) w' := fun w' => Sq.neq_same q r w'
    have nb : (Sq.okQ q s != Sq.okQ q s) = false := by simp
    go_cut [31] from 10 (fun t wc => t = .bool false ∧ Below W.heap.size W wc)
    case first =>
      go_region_held3 (fun w' => w'.cell? ⟨P, 0, none⟩ = some (.int .i64 q) ∧ w'.cell? ⟨P, 1, none⟩ = some (.string s) ∧ w'.cell? ⟨R, 0, none⟩ = some (.int .i64 q) ∧ w'.cell? ⟨R, 1, none⟩ = some (.string r)) (go_keep) (first
        | (go_at_call 13; (with_reducible refine (HST.out _).mono ?_); rintro e x1 ⟨rfl, L1⟩; have K1 : Below W.heap.size W x1 := (by first | exact L1 | exact ((Below.refl _ _).drew).trans L1); have p1 := mq.on K1; have p1_0 : x1.cell? ⟨P, 0, none⟩ = some (.int .i64 q) := p1.n; have p1_1 : x1.cell? ⟨P, 1, none⟩ = some (.string s) := p1.s; have r1 := mr.on K1; have r1_0 : x1.cell? ⟨R, 0, none⟩ = some (.int .i64 q) := r1.n; have r1_1 : x1.cell? ⟨R, 1, none⟩ = some (.string r) := r1.s)
        | (go_at_call 14; (with_reducible refine (HIO.out _).mono ?_); rintro e x2 ⟨rfl, L2⟩; have K2 : Below W.heap.size W x2 := (Pk.join_below K1 L2); have p2 := mq.on K2; have p2_0 : x2.cell? ⟨P, 0, none⟩ = some (.int .i64 q) := p2.n; have p2_1 : x2.cell? ⟨P, 1, none⟩ = some (.string s) := p2.s; have r2 := mr.on K2; have r2_0 : x2.cell? ⟨R, 0, none⟩ = some (.int .i64 q) := r2.n; have r2_1 : x2.cell? ⟨R, 1, none⟩ = some (.string r) := r2.s)
        | (go_at_call 15; (with_reducible refine (HSO.out _).mono ?_); rintro e x3 ⟨rfl, L3⟩; have K3 : Below W.heap.size W x3 := (Pk.join_below K2 L3); have p3 := mq.on K3; have p3_0 : x3.cell? ⟨P, 0, none⟩ = some (.int .i64 q) := p3.n; have p3_1 : x3.cell? ⟨P, 1, none⟩ = some (.string s) := p3.s; have r3 := mr.on K3; have r3_0 : x3.cell? ⟨R, 0, none⟩ = some (.int .i64 q) := r3.n; have r3_1 : x3.cell? ⟨R, 1, none⟩ = some (.string r) := r3.s))
      all_goals
        go_wp2
        go_meet
        case rel => exact ⟨rfl, K3⟩
    case rest =>
      obtain ⟨rfl, LC⟩ := hcut
      obtain ⟨wq, hwq⟩ : ∃ wq, wq = wc := ⟨_, rfl⟩
      subst hwq
      have mq1 := mq.on LC
      have mr1 := mr.on LC
      have KC := Pk.join_below K5 LC
      clear mq mr K5 LC b0 b1 d0 d1 nq nb HIO HST
      have b0 : wq.cell? ⟨P, 0, none⟩ = some (.int .i64 q) := mq1.n
      have b1 : wq.cell? ⟨P, 1, none⟩ = some (.string s) := mq1.s
      go_wp2_with fail
      with_reducible refine (HSO.out _).mono ?_
      rintro e w6 ⟨rfl, L6⟩
      have mq2 := mq1.on L6
      have mr2 := mr1.on L6
      have K6 := Pk.join_below KC L6
      clear mq1 mr1 KC L6 b0 b1 HSO
      have b0 : w6.cell? ⟨P, 0, none⟩ = some (.int .i64 q) := mq2.n
      have b1 : w6.cell? ⟨P, 1, none⟩ = some (.string s) := mq2.s
      have d0 : w6.cell? ⟨R, 0, none⟩ = some (.int .i64 q) := mr2.n
      have d1 : w6.cell? ⟨R, 1, none⟩ = some (.string r) := mr2.s
      cases hok : Sq.okQ q s
      · obtain rfl := HRN.out hok
        have HH : Hid (∀ W, _) := fun W => Sq.implHeart_val q r W hsm
        rw [Sq.heartV_no hok] at HH
        unfold Sq.sqV at HH
        have nq : ∀ w', (binOp .eql 29 (.agg #[.int .i64 q, .string r]) (.agg #[.int .i64 q, .string r])).run Try.prog w' = .ok (.bool true) w' := fun w' => Sq.eql_same q r w'
        skip
        go_wp2_with fail
        with_reducible refine (HH.out _).mono ?_
        rintro e w7 ⟨rfl, L7⟩
        go_wp2
        go_ret
        exact ⟨rfl, Pk.join_below K6 L7⟩
      · have HTU : Hid (∀ W, _) := fun W => Sq.implTurn_val q s W (by omega)
        obtain ⟨x, hx3, hx1, hx2⟩ : ∃ x : Int, c3.tmod 9 = x + 4 ∧ -4 ≤ x ∧ x ≤ 4 := ⟨c3.tmod 9 - 4, by omega, by rw [Int.tmod_eq_emod_of_nonneg l3]; omega, by rw [Int.tmod_eq_emod_of_nonneg l3]; omega⟩
        obtain ⟨y, hy3, hy1, hy2⟩ : ∃ y : Int, c4.tmod 9 = y + 4 ∧ -4 ≤ y ∧ y ≤ 4 := ⟨c4.tmod 9 - 4, by omega, by rw [Int.tmod_eq_emod_of_nonneg l4]; omega, by rw [Int.tmod_eq_emod_of_nonneg l4]; omega⟩
        obtain ⟨k, hk3, hk4⟩ : ∃ k : Nat, c5.tmod 4 = k ∧ k < 4 := ⟨(c5.tmod 4).toNat, by rw [Int.tmod_eq_emod_of_nonneg l5]; omega, by rw [Int.tmod_eq_emod_of_nonneg l5]; omega⟩
        have hts : (Sq.turnV q s).size ≤ maxLen := by rw [Sq.turnV_size]; exact hsm
        have HD1 : Hid (∀ W, _) := fun W => Sq.dkI_val q (Sq.turnV q s) (-y) x W hq hts
        have HD2 : Hid (∀ W, _) := fun W => Sq.dkI_val q s x y W hq hsm
        have HD3 : Hid (∀ W, _) := fun W => Sq.dkI_val q s 99 0 W hq hsm
        rw [Sq.dark_turn hok hx1 hx2 hy1 hy2] at HD1
        rw [Sq.dark_far] at HD3
        have HT4 : Hid (∀ W, _) := fun W => Sq.implTurnBy_val q s 4 W rfl (by omega)
        have HTK : Hid (∀ W, _) := fun W => Sq.implTurnBy_val q s (k : Int) W (WalkArith.wf_i64 (by omega)) (by omega)
        have HT1 : Hid (∀ W, _) := fun W => Sq.implTurnBy_val q (Sq.turnN q s k) 1 W rfl (by rw [Sq.turnN_size]; omega)
        have HTL : Hid (∀ W, _) := fun W => Sq.implTurnBy_val q s ((k : Int) + 1) W (WalkArith.wf_i64 (by omega)) (by omega)
        have HT3 : Hid (∀ W, _) := fun W => Sq.implTurnBy_val q (Sq.turnV q s) 3 W rfl (by rw [Sq.turnV_size]; omega)
        rw [show (((4 : Int) % 4).toNat) = 0 from rfl, show Sq.turnN q s 0 = s from rfl] at HT4
        rw [show ((k : Int) % 4).toNat = k from by omega] at HTK
        rw [show (((1 : Int) % 4).toNat) = 1 from rfl, Sq.turn_more hok k hk4] at HT1
        rw [show (((3 : Int) % 4).toNat) = 3 from rfl, Sq.turn_three hok] at HT3
        unfold Sq.sqV at HTU HD1 HD2 HD3 HT4 HTK HT1 HTL HT3
        generalize Sq.dkV q s x y = D at *
        generalize Sq.turnN q s (((k : Int) + 1) % 4).toNat = sl at *
        generalize Sq.turnN q s k = sk at *
        generalize Sq.turnV q s = st at *
        clear HRN mr2 d0 d1 hts
        go_wp2_with fail
        with_reducible refine (HTU.out _).mono ?_
        rintro e w7 ⟨rfl, L7⟩
        have m7 := mq2.on L7
        have K7 := Pk.join_below K6 L7
        have N8 := Pk.new_below w7 (.cells #[.int .i64 q, .string st] 29)
        have mt : Sq.Box (w7.alloc (.cells #[.int .i64 q, .string st] 29)) w7.heap.size q st := Pk.heap_new _ _
        have m8 := m7.on N8
        have K8 := Pk.join_below K7 N8
        obtain ⟨T, hT⟩ : ∃ T, w7.heap.size = T := ⟨_, rfl⟩
        rw [hT] at mt
        clear mq2 K6 L7 m7 K7 N8 b0 b1 HTU
        go_wp2_with fail
        try rw [hT]
        refine (HA3.out _ K8).mono ?_
        generalize w7.alloc (.cells #[.int .i64 q, .string st] 29) = w8 at *
        rintro e w9 ⟨rfl, hx9⟩
        subst hx9
        clear hT
        go_wp2_with fail
        refine (HA4.out _ K8).mono ?_
        rintro e w10 ⟨rfl, hx10⟩
        subst hx10
        have qx : IntKind.i64.wrap x = x := by rw [IntKind.wrap_i64]; omega
        have qy : IntKind.i64.wrap y = y := by rw [IntKind.wrap_i64]; omega
        have qn : IntKind.i64.wrap (-y) = -y := by rw [IntKind.wrap_i64]; omega
        have nb : (D != D) = false := by simp
        go_wp2
        generalize hWW : w10 = V at *
        have b0 : V.cell? ⟨P, 0, none⟩ = some (.int .i64 q) := m8.n
        have b1 : V.cell? ⟨P, 1, none⟩ = some (.string s) := m8.s
        have d0 : V.cell? ⟨T, 0, none⟩ = some (.int .i64 q) := mt.n
        have d1 : V.cell? ⟨T, 1, none⟩ = some (.string st) := mt.s
        go_cut [67] from 10 (fun t wc => t = .bool false ∧ Below V.heap.size V wc)
        case first =>
          go_region_held3 (fun w' => w'.cell? ⟨P, 0, none⟩ = some (.int .i64 q) ∧ w'.cell? ⟨P, 1, none⟩ = some (.string s) ∧ w'.cell? ⟨T, 0, none⟩ = some (.int .i64 q) ∧ w'.cell? ⟨T, 1, none⟩ = some (.string st)) (go_keep) (first
            | (go_at_call 19; (with_reducible refine (HD1.out _).mono ?_); rintro e x1 ⟨rfl, L1⟩; have K1 : Below V.heap.size V x1 := (by first | exact L1 | exact ((Below.refl _ _).drew).trans L1); have p1 := m8.on K1; have p1_0 : x1.cell? ⟨P, 0, none⟩ = some (.int .i64 q) := p1.n; have p1_1 : x1.cell? ⟨P, 1, none⟩ = some (.string s) := p1.s; have r1 := mt.on K1; have r1_0 : x1.cell? ⟨T, 0, none⟩ = some (.int .i64 q) := r1.n; have r1_1 : x1.cell? ⟨T, 1, none⟩ = some (.string st) := r1.s)
            | (go_at_call 19; (with_reducible refine (HD2.out _).mono ?_); rintro e x2 ⟨rfl, L2⟩; have K2 : Below V.heap.size V x2 := (Pk.join_below K1 L2); have p2 := m8.on K2; have p2_0 : x2.cell? ⟨P, 0, none⟩ = some (.int .i64 q) := p2.n; have p2_1 : x2.cell? ⟨P, 1, none⟩ = some (.string s) := p2.s; have r2 := mt.on K2; have r2_0 : x2.cell? ⟨T, 0, none⟩ = some (.int .i64 q) := r2.n; have r2_1 : x2.cell? ⟨T, 1, none⟩ = some (.string st) := r2.s)
            | (go_at_call 19; (with_reducible refine (HD3.out _).mono ?_); rintro e x3 ⟨rfl, L3⟩; have K3 : Below V.heap.size V x3 := (Pk.join_below K2 L3); have p3 := m8.on K3; have p3_0 : x3.cell? ⟨P, 0, none⟩ = some (.int .i64 q) := p3.n; have p3_1 : x3.cell? ⟨P, 1, none⟩ = some (.string s) := p3.s; have r3 := mt.on K3; have r3_0 : x3.cell? ⟨T, 0, none⟩ = some (.int .i64 q) := r3.n; have r3_1 : x3.cell? ⟨T, 1, none⟩ = some (.string st) := r3.s))
          all_goals
            go_wp2
            go_meet
            case rel => exact ⟨rfl, K3⟩
        case rest =>
          obtain ⟨rfl, LD⟩ := hcut
          obtain ⟨V2, hv2⟩ : ∃ V2, V2 = wc := ⟨_, rfl⟩
          subst hv2
          have m9 := m8.on LD
          have mt9 := mt.on LD
          have K9 := Pk.join_below K8 LD
          clear m8 mt K8 LD b0 b1 d0 d1 HD1 HD2 HD3
          go_wp2_with fail
          refine (HA5.out _ K9).mono ?_
          rintro e w11 ⟨rfl, hx11⟩
          have hx12 := hx11.symm
          subst hx12
          have ql : IntKind.i64.wrap ((k : Int) + 1) = (k : Int) + 1 := by rw [IntKind.wrap_i64]; omega
          have e1 : ∀ w', (binOp .eql 29 (.agg #[.int .i64 q, .string s]) (.agg #[.int .i64 q, .string s])).run Try.prog w' = .ok (.bool true) w' := fun w' => Sq.eql_same q s w'
          have e2 : ∀ w', (binOp .eql 29 (.agg #[.int .i64 q, .string sl]) (.agg #[.int .i64 q, .string sl])).run Try.prog w' = .ok (.bool true) w' := fun w' => Sq.eql_same q sl w'
          have b0 : V2.cell? ⟨P, 0, none⟩ = some (.int .i64 q) := m9.n
          have b1 : V2.cell? ⟨P, 1, none⟩ = some (.string s) := m9.s
          have d0 : V2.cell? ⟨T, 0, none⟩ = some (.int .i64 q) := mt9.n
          have d1 : V2.cell? ⟨T, 1, none⟩ = some (.string st) := mt9.s
          go_wp2
          go_region_held3 (fun w' => w'.cell? ⟨P, 0, none⟩ = some (.int .i64 q) ∧ w'.cell? ⟨P, 1, none⟩ = some (.string s) ∧ w'.cell? ⟨T, 0, none⟩ = some (.int .i64 q) ∧ w'.cell? ⟨T, 1, none⟩ = some (.string st)) (go_keep) (first
            | (go_at_call 12; (with_reducible refine (HT4.out _).mono ?_); rintro e x1 ⟨rfl, L1⟩; have K1 : Below V2.heap.size V2 x1 := (by first | exact L1 | exact ((Below.refl _ _).drew).trans L1); have p1 := m9.on K1; have p1_0 : x1.cell? ⟨P, 0, none⟩ = some (.int .i64 q) := p1.n; have p1_1 : x1.cell? ⟨P, 1, none⟩ = some (.string s) := p1.s; have r1 := mt9.on K1; have r1_0 : x1.cell? ⟨T, 0, none⟩ = some (.int .i64 q) := r1.n; have r1_1 : x1.cell? ⟨T, 1, none⟩ = some (.string st) := r1.s)
            | (go_at_call 12; (with_reducible refine (HTK.out _).mono ?_); rintro e x2 ⟨rfl, L2⟩; have K2 : Below V2.heap.size V2 x2 := (Pk.join_below K1 L2); have p2 := m9.on K2; have p2_0 : x2.cell? ⟨P, 0, none⟩ = some (.int .i64 q) := p2.n; have p2_1 : x2.cell? ⟨P, 1, none⟩ = some (.string s) := p2.s; have r2 := mt9.on K2; have r2_0 : x2.cell? ⟨T, 0, none⟩ = some (.int .i64 q) := r2.n; have r2_1 : x2.cell? ⟨T, 1, none⟩ = some (.string st) := r2.s)
            | (go_at_call 12; (with_reducible refine (HT1.out _).mono ?_); rintro e x3 ⟨rfl, L3⟩; have K3 : Below V2.heap.size V2 x3 := (Pk.join_below K2 L3); have p3 := m9.on K3; have p3_0 : x3.cell? ⟨P, 0, none⟩ = some (.int .i64 q) := p3.n; have p3_1 : x3.cell? ⟨P, 1, none⟩ = some (.string s) := p3.s; have r3 := mt9.on K3; have r3_0 : x3.cell? ⟨T, 0, none⟩ = some (.int .i64 q) := r3.n; have r3_1 : x3.cell? ⟨T, 1, none⟩ = some (.string st) := r3.s)
            | (go_at_call 12; (with_reducible refine (HTL.out _).mono ?_); rintro e x4 ⟨rfl, L4⟩; have K4 : Below V2.heap.size V2 x4 := (Pk.join_below K3 L4); have p4 := m9.on K4; have p4_0 : x4.cell? ⟨P, 0, none⟩ = some (.int .i64 q) := p4.n; have p4_1 : x4.cell? ⟨P, 1, none⟩ = some (.string s) := p4.s; have r4 := mt9.on K4; have r4_0 : x4.cell? ⟨T, 0, none⟩ = some (.int .i64 q) := r4.n; have r4_1 : x4.cell? ⟨T, 1, none⟩ = some (.string st) := r4.s)
            | (go_at_call 12; (with_reducible refine (HT3.out _).mono ?_); rintro e x5 ⟨rfl, L5⟩; have K5 : Below V2.heap.size V2 x5 := (Pk.join_below K4 L5); have p5 := m9.on K5; have p5_0 : x5.cell? ⟨P, 0, none⟩ = some (.int .i64 q) := p5.n; have p5_1 : x5.cell? ⟨P, 1, none⟩ = some (.string s) := p5.s; have r5 := mt9.on K5; have r5_0 : x5.cell? ⟨T, 0, none⟩ = some (.int .i64 q) := r5.n; have r5_1 : x5.cell? ⟨T, 1, none⟩ = some (.string st) := r5.s))
          all_goals
            have KF := Pk.join_below K9 K5
            go_wp2
            go_ret
            exact ⟨rfl, KF⟩
  · go_enter Try.func4, Try.ntmps4
    go_wp2_with fail
    refine (Cur.big_yes a0 len0 cap0 _ hb).mono ?_
    rintro e w1 ⟨rfl, rfl⟩
    go_wp2
    go_ret
    exact ⟨rfl, Below.refl _ _⟩

set_option maxRecDepth 100000 in
theorem contract (H : Type) (enc : TypeId × Value → H) (W : World) (base : Nat) (args : Array Value) (ds gs : List (DataW H)) (before : List MemPlace)
    (hval : ∀ (j : Nat) t v, Try.f4.params[j]? = some t → args[j]? = some v → Value.okWide Try.prog W .any base t v)
    (hW : DataW.Whole enc Try.prog Try.f4.params.toList Rows.fnTurnSpec.vars false W args.toList ds gs before) :
    Calls Try.prog 4 args W fun e W' => ∃ v, e = .returned v ∧ Rows.fnTurnSpec.post enc Try.prog Try.f4 false true false false W args v W' := by
  have hW' := hW
  obtain ⟨p, q, hA0, hV, rfl, hfz, hnd⟩ := hW
  have hA : DataW.TrodAll enc Try.prog W 0 (fun _ => true) true Try.f4.params.toList args.toList ds p := hA0
  rw [Try.params4] at hA hval
  obtain ⟨v0, vs0, d0, ds0, p0, q0, hargs, rfl, rfl, h0, r0⟩ := trodAll_cons hA
  obtain ⟨rfl, rfl, rfl⟩ := trodAll_nil r0
  obtain rfl : args = #[v0] := by cases args; simp_all
  obtain ⟨rfl, rfl⟩ := trodVars_none hV
  have k0 := h0
  have lt0 : ∀ x ∈ p0, x.block < W.heap.size := by obtain ⟨m, hm⟩ := k0; exact DataW.trod_lt m _ _ _ hm
  obtain ⟨a0, len0, cap0, rfl⟩ := okWide_slice Try.underlying22 (hval 0 22 v0 rfl rfl)
  obtain ⟨z0, w0⟩ : ∃ zs, IsRow .u8 W a0 len0 cap0 zs := by
    obtain ⟨fuel, hf⟩ := h0
    rcases open_ints Try.underlying22 Try.underlying5 (by kernel_rfl) hf with ⟨hcs, _⟩ | ⟨x, l, c, zs, hcs, _, hl, hm, hz, _, hcell, hwz⟩
    · simp [Value.cells] at hcs
      obtain ⟨rfl, rfl, rfl⟩ := hcs
      exact ⟨[], .inl ⟨rfl, rfl, rfl, rfl⟩⟩
    · simp [Value.cells] at hcs
      obtain ⟨rfl, rfl, rfl⟩ := hcs
      exact ⟨zs, .inr ⟨_, rfl, hl, hm, by simpa using hz, hcell, hwz⟩⟩
  clear hA0
  refine (walk a0 len0 cap0 z0 W w0 ).mono fun e W' ⟨he, bel⟩ => ?_
  subst he
  exact ⟨_, rfl, _, _, _, [], _, [], hW', trodAll_mk1 (shut_bool Try.underlying4 _), (trodAll_cons_mk (Below.trod Errs.laidOut (by kernel_rfl) (of_decide_eq_true (by kernel_rfl)) k0 bel lt0) trodAll_mk0), rfl, bel.frame _, fun h => by cases h⟩

set_option maxRecDepth 100000 in
theorem lifted (os : Os) (started : os.Started) (H : Type) (enc : TypeId × Value → H) :
    ReturnsInHanded {} Try.checked os 4 .any (Rows.fnTurnSpec.pre6 enc Try.prog Try.f4 Rows.fnTurnRow.domain false) (Rows.fnTurnSpec.post enc Try.prog Try.f4 false true false false) := by
  refine returnsInHanded_of_change (C := Try.checked) Errs.own started (by kernel_rfl) Try.func4
    (ChangeSpec.witness6 (enc := enc) (C := Try.checked) false ⟨#[], #[.slice none 0 0], []⟩ 8 (by kernel_rfl) (by kernel_rfl) (by kernel_rfl) (by kernel_rfl)) ?_
  intro W base args ds gs before hval hW _ _
  exact contract H enc W base args ds gs before hval hW

set_option maxRecDepth 100000 in
theorem over : Rows.fnTurnRow.holds Try.pinned (OpenSpec.ofChange Rows.fnTurnSpec) :=
  OpenClaim.holds_of_wide 4 Try.f4 rfl rfl rfl rfl rfl rfl rfl ⟨rfl, rfl, rfl, rfl, rfl⟩ rfl rfl rfl rfl rfl (by kernel_rfl) Try.func4 (by kernel_rfl)
    (of_decide_eq_true (by kernel_rfl)) (by unfold Func.isWrapper; first | (rw [if_pos (by decide +kernel)]; kernel_rfl) | (rw [if_neg (by decide +kernel)]; exact ⟨rfl, rfl⟩))
    (fun os started H enc _ => lifted os started H enc)
end Go.Proofs.Ytiollklighmojac.fnTurn
namespace Go.Proofs.Ytiollklighmojac
theorem FnTurn_holds : Rows.FnTurnSaid := fnTurn.over
end Go.Proofs.Ytiollklighmojac
