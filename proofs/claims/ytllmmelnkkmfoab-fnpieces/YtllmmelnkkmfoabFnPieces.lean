/- For every code the law of FnPieces answers true: the pieces of the text drawn make it up, none of them could be longer, and Whole takes what its model takes. No condition. -/
import Derived.Test.YtllmmelnkkmfoabErrs
import Derived.ShutString
import Derived.Lib.SmallJoins
import Derived.Test.YtllmmelnkkmfoabCurWhole
import Derived.Test.YtllmmelnkkmfoabMathPcs
import Derived.Test.YtllmmelnkkmfoabPkWholeS
namespace Go.Proofs.Ytllmmelnkkmfoab.fnPieces
open Go.ChangeShapes Go.WideShapes Go.ChangeAt Go.RowKit Go.Joins
open Go.ChangeMaps (open_string shut_string)
set_option linter.unusedVariables false

def IsRow (k : IntKind) (w : World) (a : Option Addr) (len cap : Nat) (zs : List Int) : Prop :=
  (a = none ∧ len = 0 ∧ cap = 0 ∧ zs = []) ∨
  ∃ x, a = some x ∧ len ≤ cap ∧ cap ≤ maxLen ∧ zs.length = cap ∧ (∀ i, i < zs.length → w.cell? (x.add i) = some (.int k (zs.getD i 0))) ∧ ∀ n ∈ zs, (Lit.int k n).wf = true

theorem byte_ne (s : ByteArray) (i j : Nat) (hi : i < s.size) (hj : j < s.size) (h : s[i]? ≠ s[j]?) : (s[j].toNat : Int) ≠ (s[i].toNat : Int) := by
  intro e
  apply h
  rw [getElem?_pos s i hi, getElem?_pos s j hj]
  congr 1
  have : s[i].toNat = s[j].toNat := by omega
  exact UInt8.toNat_inj.1 this

theorem below_drewN {B : Nat} {w w1 : World} (L : Below B w w1) (q : Nat) : Below B w (w1.drewN q) := L.trans ⟨rfl, rfl, rfl, Nat.le_refl _, fun _ _ => rfl⟩


set_option maxHeartbeats 4000000 in
theorem walk (a0 : Option Addr) (len0 cap0 : Nat) (z0 : List Int) (w : World) (w0 : IsRow .u8 w a0 len0 cap0 z0)  :
    Calls Try.prog 3 #[.slice a0 len0 cap0] w fun e w' => e = .returned (.bool true) ∧ Below w.heap.size w w' := by
  by_cases hb : len0 ≤ 1048576
  · have B := Cur.bytes_of w a0 len0 cap0 z0 w0
    go_enter Try.func3, Try.ntmps3
    go_wp2_with fail
    refine (Cur.big_no a0 len0 cap0 _ hb).mono ?_
    rintro e w1 ⟨rfl, rfl⟩
    go_wp2_with fail
    refine (Cur.drawPieces _ a0 len0 cap0 hb B).mono ?_
    rintro e w2 ⟨⟨s, rfl, hs⟩, L2⟩
    have hs2 : s.size ≤ maxLen := by unfold maxLen; omega
    go_wp2_with fail
    refine (Pk.implPieces_val s _ hs2).mono ?_
    rintro e w3 ⟨v, rfl, hown, L3⟩
    have L4 := Pk.join_below L2 L3
    obtain ⟨va, vc, rfl, -⟩ := Pk.own_form hown
    by_cases h3 : s.size ≤ 3000
    · have hd : decide ((3000 : Int) < (s.size : Int)) = false := decide_eq_false (by omega)
      have I := Pk.pcs_own hown
      obtain ⟨e1, e2⟩ := Math.whole_pieces s h3
      have hle := Math.pieces_le s h3
      have HW : Hid (∀ w, _ → _) := fun w h => Pk.implWhole_val va (Math.pieces s) vc w (by omega) h
      rw [e1, e2] at HW
      have HPE : Hid (_) := Math.pos_end s h3
      have HPA : Hid (∀ k (hk : k < (Math.pieces s).length), (Math.pieces s)[k] = Math.pieceAt s (Math.posAt s k) ∧ Math.posAt s k < s.size) := fun k hk => Math.pos_at s h3 k hk
      generalize hps : Math.pieces s = ps at *
      clear hps e1 e2 hown L2 L3
      go_wp2_with fail
      refine (HW.out _ I).mono ?_
      rintro e w5 ⟨rfl, L5⟩
      have L6 := Pk.join_below L4 L5
      have I5 := I.on L5
      have hd2 : decide ((s.size : Int) < (ps.length : Int)) = false := decide_eq_false (by omega)
      clear HW I L4 L5
      go_wp2
      go_loopw [7, 8] (fun t i wr => ∃ (k : Nat), k ≤ ps.length ∧ i = .int .i64 k ∧ t = .int .i64 (Math.posAt s k : Nat) ∧ Below w5.heap.size w5 wr) (fun _ i _ => ps.length - (intOf i).toNat)
      case atStart => exact ⟨0, by omega, rfl, rfl, Below.refl _ _⟩
      case round =>
        obtain ⟨k, hk, rfl, rfl, LR⟩ := hrel
        by_cases hkn : k < ps.length
        · obtain ⟨b, o, rfl, hlt, hc0, hc1, hc2⟩ := (I5.on LR).at k hkn
          obtain ⟨hp, hpos⟩ := HPA.out k hkn
          rw [hp] at hc0 hc1 hc2
          have HPS : Hid (Math.posAt s (k + 1) = Math.posAt s k + Math.stepAt s (Math.posAt s k)) := rfl
          have hpc := Math.piece_cases s _ hpos
          clear hp
          generalize Math.posAt s k = i at *
          generalize Math.pieceAt s i = p at *
          generalize Math.stepAt s i = st at *
          rcases hpc with ⟨n, d, rfl, hst, h3, h4, h5, h6, h7, h8, h9, h10⟩ | ⟨rfl, hst⟩
          · rw [hst] at HPS
            clear h9 hst st
            dsimp only at hc0 hc1 hc2
            have L7 : Below w5.heap.size w5 (wr.alloc (.cells #[.int .i64 0, .int .i64 n, .int .i64 d] 30)) := LR.alloc LR.size _
            have hn0 : ((n : Int) == 0) = false := beq_eq_false_iff_ne.2 (by omega)
            have hid : (i : Int) + (n : Int) = ((i + n : Nat) : Int) := by omega
            obtain ⟨q, hq⟩ : ∃ q, i + n = q := ⟨_, rfl⟩
            rw [hq] at hid h8 h10 HPS
            have HQ : Hid (i + n = q) := hq
            by_cases hn258 : n < 258
            · have hd4 : decide ((n : Int) < 258) = true := decide_eq_true (by omega)
              by_cases hqs : q < s.size
              · have h11 := h10 hn258 hqs
                have ex : i - d + n = q - d := by omega
                rw [ex] at h11
                have hne := byte_ne s (q - d) q (by omega) hqs h11
                have hqd : (q : Int) - (d : Int) = ((q - d : Nat) : Int) := by omega
                have hrs : q - d < s.size := by omega
                obtain ⟨r, hr⟩ : ∃ r, q - d = r := ⟨_, rfl⟩
                simp only [hr] at hne hqd
                rw [hr] at hrs
                have hbe : ((s[q].toNat : Int) == (s[r].toNat : Int)) = false := beq_eq_false_iff_ne.2 hne
                clear h10 h11 ex hr hq hn258 hne
                go_wp2
                go_quiet (fail)
                go_wp2
                go_roundw
                case rel => exact ⟨k + 1, by omega, by go_num, by rw [HPS.out], below_drewN L7 _⟩
                case measure => simp [intOf]; omega
              · clear h10 hq hn258
                go_wp2
                go_quiet (fail)
                go_wp2
                go_roundw
                case rel => exact ⟨k + 1, by omega, by go_num, by rw [HPS.out], below_drewN L7 _⟩
                case measure => simp [intOf]; omega
            · have hd4 : decide ((n : Int) < 258) = false := decide_eq_false (by omega)
              clear h10 hq hn258
              go_wp2
              go_quiet (fail)
              go_wp2
              go_roundw
              case rel => exact ⟨k + 1, by omega, by go_num, by rw [HPS.out], below_drewN L7 _⟩
              case measure => simp [intOf]; omega
          · rw [hst] at HPS
            clear hst st
            dsimp only at hc0 hc1 hc2
            have L7 : Below w5.heap.size w5 (wr.alloc (.cells #[.int .i64 (s[i].toNat : Int), .int .i64 0, .int .i64 0] 30)) := LR.alloc LR.size _
            have hb := s[i].toNat_lt
            go_wp2
            go_quiet (fail)
            go_wp2
            go_roundw
            case rel => exact ⟨k + 1, by omega, by go_num, by rw [HPS.out]; go_num, below_drewN L7 _⟩
            case measure => simp [intOf]; omega
        · obtain rfl : k = ps.length := by omega
          rw [HPE.out]
          have L7 := Pk.join_below L6 LR
          clear HPE HPA LR L6
          go_wp2_with fail
          refine (Cur.drawWhole _ a0 len0 cap0 hb (B.on L7)).mono ?_
          rintro e w8 ⟨⟨v8, c8, qs, rfl, hq8, J8⟩, L8⟩
          have L9 := Pk.join_below L7 L8
          clear L7 L8
          go_wp2_with fail
          refine (Pk.implWhole_val v8 qs c8 _ (by omega) J8).mono ?_
          rintro e w10 ⟨rfl, L10⟩
          have L11 := Pk.join_below L9 L10
          have J10 := J8.on L10
          clear L9 L10 J8
          go_wp2_with fail
          refine (Pk.specWhole_val v8 qs c8 _ (by omega) J10).mono ?_
          rintro e w12 ⟨rfl, L12⟩
          have L13 := Pk.join_below L11 L12
          generalize Math.wholeS qs = S2 at *
          generalize Math.wholeB qs = B2 at *
          clear L11 L12 J10
          cases B2
          all_goals
            go_wp2
            go_ret
            exact ⟨rfl, L13⟩
    · have hd : decide ((3000 : Int) < (s.size : Int)) = true := decide_eq_true (by omega)
      have e0 : Math.pieces s = [] := if_neg h3
      rw [e0]
      clear h3
      go_wp2
      go_ret
      exact ⟨rfl, L4⟩
  · go_enter Try.func3, Try.ntmps3
    go_wp2_with fail
    refine (Cur.big_yes a0 len0 cap0 _ hb).mono ?_
    rintro e w1 ⟨rfl, rfl⟩
    go_wp2
    go_ret
    exact ⟨rfl, Below.refl _ _⟩

set_option maxRecDepth 100000 in
theorem contract (H : Type) (enc : TypeId × Value → H) (W : World) (base : Nat) (args : Array Value) (ds gs : List (DataW H)) (before : List MemPlace)
    (hval : ∀ (j : Nat) t v, Try.f3.params[j]? = some t → args[j]? = some v → Value.okWide Try.prog W .any base t v)
    (hW : DataW.Whole enc Try.prog Try.f3.params.toList Rows.fnPiecesSpec.vars false W args.toList ds gs before) :
    Calls Try.prog 3 args W fun e W' => ∃ v, e = .returned v ∧ Rows.fnPiecesSpec.post enc Try.prog Try.f3 false true false false W args v W' := by
  have hW' := hW
  obtain ⟨p, q, hA0, hV, rfl, hfz, hnd⟩ := hW
  have hA : DataW.TrodAll enc Try.prog W 0 (fun _ => true) true Try.f3.params.toList args.toList ds p := hA0
  rw [Try.params3] at hA hval
  obtain ⟨v0, vs0, d0, ds0, p0, q0, hargs, rfl, rfl, h0, r0⟩ := trodAll_cons hA
  obtain ⟨rfl, rfl, rfl⟩ := trodAll_nil r0
  obtain rfl : args = #[v0] := by cases args; simp_all
  obtain ⟨rfl, rfl⟩ := trodVars_none hV
  have k0 := h0
  have lt0 : ∀ x ∈ p0, x.block < W.heap.size := by obtain ⟨m, hm⟩ := k0; exact DataW.trod_lt m _ _ _ hm
  obtain ⟨a0, len0, cap0, rfl⟩ := okWide_slice Try.underlying22 (hval 0 22 v0 rfl rfl)
  obtain ⟨z0, w0⟩ : ∃ zs, IsRow .u8 W a0 len0 cap0 zs := by
    obtain ⟨fuel, hf⟩ := h0
    rcases open_ints Try.underlying22 Try.underlying5 (by kernel_rfl) hf with ⟨hcs, _⟩ | ⟨x, l, c, zs, hcs, _, hl, hm, hz, _, hcell, hwz⟩
    · simp [Value.cells] at hcs
      obtain ⟨rfl, rfl, rfl⟩ := hcs
      exact ⟨[], .inl ⟨rfl, rfl, rfl, rfl⟩⟩
    · simp [Value.cells] at hcs
      obtain ⟨rfl, rfl, rfl⟩ := hcs
      exact ⟨zs, .inr ⟨_, rfl, hl, hm, by simpa using hz, hcell, hwz⟩⟩
  clear hA0
  refine (walk a0 len0 cap0 z0 W w0 ).mono fun e W' ⟨he, bel⟩ => ?_
  subst he
  exact ⟨_, rfl, _, _, _, [], _, [], hW', trodAll_mk1 (shut_bool Try.underlying4 _), (trodAll_cons_mk (Below.trod Errs.laidOut (by kernel_rfl) (of_decide_eq_true (by kernel_rfl)) k0 bel lt0) trodAll_mk0), rfl, bel.frame _, fun h => by cases h⟩

theorem lifted (os : Os) (started : os.Started) (H : Type) (enc : TypeId × Value → H) :
    ReturnsInHanded {} Try.checked os 3 .any (Rows.fnPiecesSpec.pre6 enc Try.prog Try.f3 Rows.fnPiecesRow.domain false) (Rows.fnPiecesSpec.post enc Try.prog Try.f3 false true false false) := by
  refine returnsInHanded_of_change (C := Try.checked) Errs.own started (by kernel_rfl) Try.func3
    (ChangeSpec.witness6 (enc := enc) (C := Try.checked) false ⟨#[], #[.slice none 0 0], []⟩ 8 (by kernel_rfl) (by kernel_rfl) (by kernel_rfl) (by kernel_rfl)) ?_
  intro W base args ds gs before hval hW _ _
  exact contract H enc W base args ds gs before hval hW

theorem over : Rows.fnPiecesRow.holds Try.pinned (OpenSpec.ofChange Rows.fnPiecesSpec) :=
  OpenClaim.holds_of_wide 3 Try.f3 rfl rfl rfl rfl rfl rfl rfl ⟨rfl, rfl, rfl, rfl, rfl⟩ rfl rfl rfl rfl rfl (by kernel_rfl) Try.func3 (by kernel_rfl)
    (of_decide_eq_true (by kernel_rfl)) (by unfold Func.isWrapper; first | (rw [if_pos (by decide +kernel)]; kernel_rfl) | (rw [if_neg (by decide +kernel)]; exact ⟨rfl, rfl⟩))
    (fun os started H enc _ => lifted os started H enc)
end Go.Proofs.Ytllmmelnkkmfoab.fnPieces
namespace Go.Proofs.Ytllmmelnkkmfoab
theorem FnPieces_holds : Rows.FnPiecesSaid := fnPieces.over
end Go.Proofs.Ytllmmelnkkmfoab
