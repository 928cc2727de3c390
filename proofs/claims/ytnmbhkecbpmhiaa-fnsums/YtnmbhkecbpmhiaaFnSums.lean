/- For every code the law of sums answers true. No condition. -/
import Derived.Test.YtnmbhkecbpmhiaaRows
import Derived.WalkKit
import Derived.ProofKit
import Derived.OpenShut
import Derived.ShutString
import Derived.ChangeOld
import Derived.Below
import Derived.Test.YtnmbhkecbpmhiaaCurBytes
import Derived.Test.YtnmbhkecbpmhiaaNumSum
import Derived.Test.YtnmbhkecbpmhiaaNumFold
import Derived.Test.YtnmbhkecbpmhiaaNumWord
import Derived.Deep.RegionWith
namespace Go.Proofs.Ytnmbhkecbpmhiaa.fnSums
open Go.ChangeShapes Go.WideShapes Go.ChangeAt Go.RowKit
open Go.ChangeMaps (open_string shut_string)
set_option linter.unusedVariables false

theorem own : ownKnob Try.prog.godebug = none := by kernel_rfl
theorem laidOut : laidOutB Try.prog = true := by kernel_rfl

def IsRow (k : IntKind) (w : World) (a : Option Addr) (len cap : Nat) (zs : List Int) : Prop :=
  (a = none ∧ len = 0 ∧ cap = 0 ∧ zs = []) ∨
  ∃ x, a = some x ∧ len ≤ cap ∧ cap ≤ maxLen ∧ zs.length = cap ∧ (∀ i, i < zs.length → w.cell? (x.add i) = some (.int k (zs.getD i 0))) ∧ ∀ n ∈ zs, (Lit.int k n).wf = true

theorem walk (a0 : Option Addr) (len0 cap0 : Nat) (z0 : List Int) (w : World) (w0 : IsRow .u8 w a0 len0 cap0 z0) :
    Calls Try.prog 5 #[.slice a0 len0 cap0] w fun e w' => e = .returned (.bool true) ∧ Below w.heap.size w w' := by
  by_cases hb : len0 ≤ 1048576
  · have B := Cur.bytes_of w a0 len0 cap0 z0 w0
    clear w0
    go_enter Try.func5, Try.ntmps5
    go_wp2_with fail
    refine (Cur.big_no a0 len0 cap0 _ hb).mono ?_
    rintro e w1 ⟨rfl, rfl⟩
    go_wp2_with fail
    refine (Cur.drawCheckSum _ a0 len0 cap0 hb B).mono ?_
    rintro e w2 ⟨⟨s, rfl, hs⟩, L2⟩
    have B2 := B.on L2
    clear B
    have hsm : s.size ≤ maxLen := by unfold maxLen; omega
    have hX := Math.crc_lt s.data.toList
    go_wp2_with fail
    refine (Num.implCheckSum_any s _ hsm).mono ?_
    rintro e w3 ⟨rfl, rfl⟩
    go_wp2_with fail
    refine (Num.specCheckSum_any s _ hsm).mono ?_
    rintro e w4 ⟨rfl, rfl⟩
    have HX : Hid (∃ X : Nat, X = Math.crc s.data.toList) := ⟨_, rfl⟩
    obtain ⟨X, hXe⟩ := HX.out
    rw [← hXe] at hX ⊢
    have HXe : Hid (X = Math.crc s.data.toList) := hXe
    clear hXe HX
    go_wp2_with fail
    refine (Num.implWordText_any X _ hX).mono ?_
    rintro e w5 ⟨rfl, _, L5⟩
    have hw4 := Num.wordS_size X
    have L6 := Cur.below_join L2 L5
    have B5 := B2.on L5
    clear L2 L5 B2
    go_wp2_with fail
    refine (Num.implWordText_any X _ hX).mono ?_
    rintro e w7 ⟨rfl, _, L7⟩
    have L8 := Cur.below_join L6 L7
    have B7 := B5.on L7
    clear L6 L7 B5
    go_wp2_with fail
    refine (Num.specWordText_any X _ hX).mono ?_
    rintro e w9 ⟨rfl, _, L9⟩
    have L10 := Cur.below_join L8 L9
    have B9 := B7.on L9
    clear L8 L9 B7
    generalize Num.wordS X = T at *
    go_wp2_with fail
    refine (Cur.drawFold _ a0 len0 cap0 hb B9).mono ?_
    rintro e w11 ⟨⟨t, m, rfl, ht⟩, L11⟩
    have L12 := Cur.below_join L10 L11
    have B11 := B9.on L11
    clear L10 L11 B9
    have htm : t.size ≤ maxLen := by unfold maxLen; omega
    go_wp2_with fail
    refine (Num.implFold_val t m _ htm).mono ?_
    rintro e w13 ⟨rfl, D13⟩
    have L14 := Cur.below_join L12 (Cur.below_drawn _ D13)
    have B13 := B11.on (Cur.below_drawn _ D13)
    clear L12 B11 D13
    go_wp2_with fail
    refine (Num.specFold_val t m _ htm).mono ?_
    rintro e w15 ⟨rfl, rfl⟩
    by_cases h0 : s.size = 0
    · have he : s = ⟨#[]⟩ := by
        apply ByteArray.ext
        exact Array.eq_empty_of_size_eq_zero h0
      have HX0 : Hid (X = 0) := by
        show _ = _
        rw [HXe.out, he]
        exact Math.crc_nil
      subst he
      obtain rfl := HX0.out
      go_wp2
      go_ret
      exact ⟨rfl, L14⟩
    · have hne : s.toList.isEmpty = false := by
        rw [ByteArray.toList_eq, List.isEmpty_eq_false_iff]
        intro h
        apply h0
        have := congrArg List.length h
        simpa using this
      obtain ⟨g, cp, w16, hrun, hg0, hg1, L16, hcells⟩ := Cur.to_bytes w15 s
      obtain ⟨x2, hx20, hx21, hat2⟩ := Cur.at_is a0 len0 cap0 2 w15 hb (by omega) B13
      obtain ⟨x3, hx30, hx31, hat3⟩ := Cur.at_is a0 len0 cap0 3 w15 hb (by omega) B13
      have HC : Hid (∀ j (hj : j < s.size), w16.cell? ⟨g, j, none⟩ = some (.int .u8 (s[j].toNat : Int)) ∧ w16.frozen? ⟨g, j, none⟩ = false) := hcells
      have HA2 : Hid (_) := hat2
      have HA3 : Hid (_) := hat3
      clear hcells hat2 hat3
      go_wp2_with fail
      refine (HA2.out _ L16).mono ?_
      rintro e w17 ⟨rfl, rfl⟩
      obtain ⟨k, hk, hks⟩ : ∃ k : Nat, x2 % (s.size : Int) = k ∧ k < s.size := by
        have h1 := Int.emod_nonneg x2 (show (s.size : Int) ≠ 0 by omega)
        have h2 := Int.emod_lt_of_pos x2 (show 0 < (s.size : Int) by omega)
        exact ⟨(x2 % (s.size : Int)).toNat, by omega, by omega⟩
      obtain ⟨hck, hfk⟩ := HC.out k hks
      clear hrun
      go_wp2
      go_region_with (go_at_call 17; refine (HA3.out _ ?_).mono ?_; (first | exact L16 | exact L16.drew | exact L16.drew.drew); rintro e w' ⟨rfl, rfl⟩)
      all_goals
        rw [Cur.xor_val s[k] x3 hx30]
        have hback := Cur.back_set w17 s g cp k (s[k] ^^^ UInt8.ofNat (1 + x3 % 255).toNat) hks HC.out
        have hne2 : s[k] ^^^ UInt8.ofNat (1 + x3 % 255).toNat ≠ s[k] := Math.xor_ne _ _ (by omega) (by omega)
        have hcrc := Math.crc_set s.data.toList k (by simpa using hks) _ hne2
        rw [← HXe.out] at hcrc
        clear hne2 hck hfk hk
        have hsz : (ByteArray.mk (s.data.toList.set k (s[k] ^^^ UInt8.ofNat (1 + x3 % 255).toNat)).toArray).size ≤ maxLen := by
          unfold maxLen
          have : (s.data.toList.set k (s[k] ^^^ UInt8.ofNat (1 + x3 % 255).toNat)).length = s.size := by rw [List.length_set, Array.length_toList]; rfl
          simp only [ByteArray.size, List.size_toArray]
          omega
        have L18 : Below w1.heap.size w1 ((w17.setCell ⟨g, k, none⟩ (.int .u8 ((s[k] ^^^ UInt8.ofNat (1 + x3 % 255).toNat).toNat : Int))).drew) :=
          ((Cur.below_join L14 L16).setCell (by show w1.heap.size ≤ g; have := L14.size; omega) _).drew
        have hcrc2 : ((Math.crc (ByteArray.mk (s.data.toList.set k (s[k] ^^^ UInt8.ofNat (1 + x3 % 255).toNat)).toArray).data.toList : Nat) : Int) ≠ (X : Int) := by
          intro h
          apply hcrc
          have h' : Math.crc (ByteArray.mk (s.data.toList.set k (s[k] ^^^ UInt8.ofNat (1 + x3 % 255).toNat)).toArray).data.toList = X := by omega
          rw [← h']
        clear hcrc
        generalize s[k] ^^^ UInt8.ofNat (1 + x3 % 255).toNat = V at *
        generalize ByteArray.mk (s.data.toList.set k V).toArray = S2 at *
        have hk2 := Num.implCheckSum_any S2
        have HK2 : Hid (_) := hk2
        clear hk2
        generalize hY : Math.crc S2.data.toList = Y at *
        have HY : Hid (Math.crc S2.data.toList = Y) := hY
        clear hY
        have hXY : ((Y : Int) != (X : Int)) = true := by rw [bne_iff_ne]; exact hcrc2
        clear hcrc2
        go_wp2_with fail
        refine (HK2.out _ hsz).mono ?_
        rintro e w18 ⟨rfl, rfl⟩
        go_wp2
        go_ret
        exact ⟨rfl, L18⟩
  · go_enter Try.func5, Try.ntmps5
    go_wp2_with (go_at_call 6; refine (Cur.big_yes _ _ _ _ hb).mono ?_; rintro e w' ⟨rfl, rfl⟩)
    go_ret
    exact ⟨rfl, Below.refl _ _⟩

set_option maxRecDepth 100000 in
theorem lifted (os : Os) (started : os.Started) (H : Type) (enc : TypeId × Value → H) :
    ReturnsInHanded {} Try.checked os 5 .any (Rows.fnSumsSpec.pre6 enc Try.prog Try.f5 Rows.fnSumsRow.domain false) (Rows.fnSumsSpec.post enc Try.prog Try.f5 false true false false) := by
  refine returnsInHanded_of_change (C := Try.checked) own started (by kernel_rfl) Try.func5
    (ChangeSpec.witness6 (enc := enc) (C := Try.checked) false ⟨#[], #[.slice none 0 0], []⟩ 8 (by kernel_rfl) (by kernel_rfl) (by kernel_rfl) (by kernel_rfl)) ?_
  intro W base args ds gs before hval0 hW hcnd _
  have hval : ∀ (j : Nat) t v, Try.f5.params[j]? = some t → args[j]? = some v → Value.okWide Try.prog W .any base t v := hval0
  have hW' := hW
  obtain ⟨p, q, hA0, hV, rfl, hfz, hnd⟩ := hW
  have hA : DataW.TrodAll enc Try.prog W 0 (fun _ => true) true Try.f5.params.toList args.toList ds p := hA0
  rw [Try.params5] at hA hval
  obtain ⟨v0, vs0, d0, ds0, p0, q0, hargs, rfl, rfl, h0, r0⟩ := trodAll_cons hA
  obtain ⟨rfl, rfl, rfl⟩ := trodAll_nil r0
  obtain rfl : args = #[v0] := by cases args; simp_all
  obtain ⟨rfl, rfl⟩ := trodVars_none hV
  obtain ⟨a0, len0, cap0, rfl⟩ := okWide_slice Try.underlying22 (hval 0 22 v0 rfl rfl)
  have k0 := h0
  have lt0 : ∀ x ∈ p0, x.block < W.heap.size := by obtain ⟨m, hm⟩ := k0; exact DataW.trod_lt m _ _ _ hm
  obtain ⟨z0, w0⟩ : ∃ zs, IsRow .u8 W a0 len0 cap0 zs := by
    obtain ⟨fuel, hf⟩ := h0
    rcases open_ints Try.underlying22 Try.underlying5 (by kernel_rfl) hf with ⟨hcs, _⟩ | ⟨x, l, c, zs, hcs, _, hl, hm, hz, _, hcell, hwz⟩
    · simp [Value.cells] at hcs
      obtain ⟨rfl, rfl, rfl⟩ := hcs
      exact ⟨[], .inl ⟨rfl, rfl, rfl, rfl⟩⟩
    · simp [Value.cells] at hcs
      obtain ⟨rfl, rfl, rfl⟩ := hcs
      exact ⟨zs, .inr ⟨_, rfl, hl, hm, by simpa using hz, hcell, hwz⟩⟩
  clear hA0 hval0
  refine (walk a0 len0 cap0 z0 W w0).mono fun e W' ⟨he, bel⟩ => ?_
  subst he
  exact ⟨_, rfl, _, _, _, [], _, [], hW', trodAll_mk1 (shut_bool Try.underlying4 _), (trodAll_cons_mk (Below.trod laidOut (by kernel_rfl) (of_decide_eq_true (by kernel_rfl)) k0 bel lt0) trodAll_mk0), rfl, bel.frame _, fun h => by cases h⟩

theorem over : Rows.fnSumsRow.holds Try.pinned (OpenSpec.ofChange Rows.fnSumsSpec) :=
  OpenClaim.holds_of_wide 5 Try.f5 rfl rfl rfl rfl rfl rfl rfl ⟨rfl, rfl, rfl, rfl, rfl⟩ rfl rfl rfl rfl rfl (by kernel_rfl) Try.func5 (by kernel_rfl)
    (of_decide_eq_true (by kernel_rfl)) (by unfold Func.isWrapper; first | (rw [if_pos (by decide +kernel)]; kernel_rfl) | (rw [if_neg (by decide +kernel)]; exact ⟨rfl, rfl⟩))
    (fun os started H enc _ => lifted os started H enc)

theorem proved : Rows.FnSumsSaid := over
end Go.Proofs.Ytnmbhkecbpmhiaa.fnSums
namespace Go.Proofs.Ytnmbhkecbpmhiaa
theorem FnSums_holds : Rows.FnSumsSaid := fnSums.proved
end Go.Proofs.Ytnmbhkecbpmhiaa
