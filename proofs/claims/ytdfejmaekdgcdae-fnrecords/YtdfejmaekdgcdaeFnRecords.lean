/- For every code the law of records answers true: the program's Records, Append and Record of a drawn log and a drawn text are its model's; a record that is appended behind the whole ones is read, of a log that lacks its last byte those ahead are left, and so of one in which a bit of the last record's sum or text is changed. No condition. -/
import Derived.Test.YtdfejmaekdgcdaeErrs
import Derived.ShutString
import Derived.Lib.SmallJoins
import Derived.Test.YtdfejmaekdgcdaeLgCutR
import Derived.Test.YtdfejmaekdgcdaeLgJoin
import Derived.Test.YtdfejmaekdgcdaeLgSame
import Derived.Test.YtdfejmaekdgcdaeLgRun3
import Derived.Test.YtdfejmaekdgcdaeCurLg
import Derived.Test.YtdfejmaekdgcdaeCurBytes
namespace Go.Proofs.Ytdfejmaekdgcdae.fnRecords
open Go.ChangeShapes Go.WideShapes Go.ChangeAt Go.RowKit Go.Joins
open Go.ChangeMaps (open_string shut_string)
set_option linter.unusedVariables false
set_option linter.unusedSimpArgs false

def IsRow (k : IntKind) (w : World) (a : Option Addr) (len cap : Nat) (zs : List Int) : Prop :=
  (a = none ∧ len = 0 ∧ cap = 0 ∧ zs = []) ∨
  ∃ x, a = some x ∧ len ≤ cap ∧ cap ≤ maxLen ∧ zs.length = cap ∧ (∀ i, i < zs.length → w.cell? (x.add i) = some (.int k (zs.getD i 0))) ∧ ∀ n ∈ zs, (Lit.int k n).wf = true

theorem back_plain (w : World) (s : ByteArray) (g cp k : Nat) (v : UInt8) (hk : k < s.size) (hc : ∀ j (hj : j < s.size), w.cell? ⟨g, j, none⟩ = some (.int .u8 (s[j].toNat : Int)) ∧ w.frozen? ⟨g, j, none⟩ = false) :
    (convert 22 9 (.slice (some ⟨g, 0, none⟩) s.size cp)).run Try.prog (w.setCell ⟨g, k, none⟩ (.int .u8 (v.toNat : Int))) = .ok (.string ⟨(s.data.toList.set k v).toArray⟩) (w.setCell ⟨g, k, none⟩ (.int .u8 (v.toNat : Int))) := by
  have hl : (s.data.toList.set k v).length = s.size := by rw [List.length_set, Array.length_toList]; rfl
  have := run_convert_bytes_back (P := Try.prog) (w.setCell ⟨g, k, none⟩ (.int .u8 (v.toNat : Int))) 22 9 5 ⟨g, 0, none⟩ cp (s.data.toList.set k v) Try.underlying22 Try.underlying5 Try.underlying9 (by
    intro j hj
    have hj2 : j < s.size := by omega
    rw [show Addr.add ⟨g, 0, none⟩ j = ⟨g, j, none⟩ from by simp [Addr.add]; exact Eq.symm]
    by_cases e : j = k
    · subst e
      rw [World.cell?_setCell_same _ _ _ (hc j hj2).1, List.getElem_set_self]
    · rw [World.cell?_setCell_other _ _ _ _ (by intro h; apply e; simpa using h.symm), (hc j hj2).1, List.getElem_set_ne (by omega)]
      rfl)
  rw [hl] at this
  exact this

theorem sz_set (M : ByteArray) (i : Nat) (v : UInt8) : (⟨(M.data.toList.set i v).toArray⟩ : ByteArray).size = M.size := by
  show (M.data.toList.set i v).toArray.size = M.data.size
  rw [List.size_toArray, List.length_set, Array.length_toList]

theorem xor_one (b : UInt8) : b ^^^ 1 ≠ b := by
  intro e2
  have e3 : (b ^^^ 1) ^^^ b = b ^^^ b := by rw [e2]
  rw [UInt8.xor_self, UInt8.xor_comm b 1, UInt8.xor_assoc, UInt8.xor_self, UInt8.xor_zero] at e3
  exact absurd e3 (by decide)

theorem flip_run (b : UInt8) : bits .xor .u8 (b.toNat : Int) 1 = ((b ^^^ 1).toNat : Int) := Math.bits_xor_u8 b 1 (by omega)


set_option maxRecDepth 100000 in
set_option maxHeartbeats 8000000 in
theorem walk (a0 : Option Addr) (len0 cap0 : Nat) (z0 : List Int) (w : World) (w0 : IsRow .u8 w a0 len0 cap0 z0)   :
    Calls Try.prog 3 #[.slice a0 len0 cap0] w fun e w' => e = .returned (.bool true) ∧ Below w.heap.size w w' := by
  by_cases hb : len0 ≤ 1048576
  · have B := Cur.bytes_of w a0 len0 cap0 z0 w0
    clear w0
    obtain ⟨c3, lb3, ub3, H3⟩ := Cur.at_is a0 len0 cap0 3 w hb (by omega) B
    have HA3 : Hid (_) := H3
    clear H3
    go_enter Try.func3, Try.ntmps3
    go_wp2_with fail
    refine (Cur.big_no a0 len0 cap0 _ hb).mono ?_
    rintro e w1 ⟨rfl, hw1⟩
    have hw2 := hw1.symm
    subst hw2
    go_wp2_with fail
    refine (Cur.drawAppend _ a0 len0 cap0 hb B).mono ?_
    rintro e w2 ⟨⟨l, s, rfl, hl, hs⟩, L2⟩
    clear B
    have h2 : l.size ≤ 200000 := by omega
    have hep := Lg10.pre_size h2
    have hee := (Lg10.recs_run h2).2.2
    have hrl : (Lg10.rsL l).length ≤ 1048576 := by have := Lg10.recs_length h2; omega
    have HI1 : Hid (∀ W, _) := fun W => Lg10.implRecords_val l W (by unfold maxLen; omega)
    have HSR : Hid (∀ W, _) := fun W => Lg10.specRecords_val l W (by unfold maxLen; omega)
    have HST : Hid (∀ W v1 v2, Gt.Txts W v1 (Lg10.rsL l) → Gt.Txts W v2 (Lg10.rsL l) → _) := fun W v1 v2 a b => Gt.sameTexts_same v1 v2 (Lg10.rsL l) W hrl a b
    have HIA : Hid (∀ W, _) := fun W => Lg10.implAppend_val (Lg10.pre l) s W (by omega) (by unfold maxLen; omega)
    have HIC : Hid (∀ W, _) := fun W => Lg10.implRecord_val s W (by unfold maxLen; omega)
    have HSC : Hid (∀ W, _) := fun W => Lg10.specRecord_val s W (by unfold maxLen; omega)
    have hPR : l.extract 0 (Lg10.rsE l) = Lg10.pre l := rfl
    have eI : (Lg10.rsE l : Int) ≤ (l.size : Int) := by omega
    have e4 : (Lg10.rsE l : Int) ≤ 400 := by omega
    have e0 : (0 : Int) ≤ (Lg10.rsE l : Int) := by omega
    by_cases h3 : s.size ≤ 3000
    · have hrb : Lg10.rcB s = true := decide_eq_true h3
      have hrs : Lg10.rcS s = Lg10.recS s := if_pos h3
      have hrz := Lg10.recS_size s
      have hms := Lg10.more_size (s := s) h2
      have hab : Lg10.apB (Lg10.pre l) s = true := by
        unfold Lg10.apB
        rw [hrb, hrs, decide_eq_true (by omega)]
        rfl
      have has : Lg10.apS (Lg10.pre l) s = Lg10.more l s := by
        unfold Lg10.apS
        rw [if_pos hab]
        rfl
      rw [hab, has] at HIA
      rw [hrb, hrs] at HIC HSC
      have HSP : Hid (∀ (b : ByteArray) (i : Nat) (v : UInt8) (h1 : Lg10.rsE l + 4 ≤ i) (hi : i < (Lg10.more l s).size), Lg10.bl b = (Lg10.bl (Lg10.more l s)).set i v → v ≠ (Lg10.bl (Lg10.more l s))[i]'(by rw [Lg10.bl_length]; exact hi) → Lg10.rsL b = Lg10.rsL l ∧ Lg10.rsE b = Lg10.rsE l) := fun b i v a1 a2 a3 a4 => Lg10.spoilt_recs h2 h3 (by omega) a1 a2 a3 a4
      have HI3 : Hid (∀ W, _) := fun W => Lg10.implRecords_val (Lg10.more l s) W (by unfold maxLen; omega)
      rw [(Lg10.more_recs (s := s) h2 h3 (by omega)).1, (Lg10.more_recs (s := s) h2 h3 (by omega)).2] at HI3
      have htn : Lg10.tornS (Lg10.more l s) (((Lg10.more l s).size : Int) - 1) = (Lg10.more l s).extract 0 ((Lg10.more l s).size - 1) := by
        unfold Lg10.tornS
        rw [if_neg (by omega), if_neg (by omega), show (((Lg10.more l s).size : Int) - 1).toNat = (Lg10.more l s).size - 1 from by omega]
      have HTN : Hid (∀ W, _) := fun W => Lg10.implTorn_val (Lg10.more l s) (((Lg10.more l s).size : Int) - 1) W (by omega)
      rw [htn] at HTN
      have HI4 : Hid (∀ W, _) := fun W => Lg10.implRecords_val ((Lg10.more l s).extract 0 ((Lg10.more l s).size - 1)) W (by rw [ByteArray.size_extract]; unfold maxLen; omega)
      rw [(Lg10.torn_recs (s := s) h2 h3 (by omega)).1, (Lg10.torn_recs (s := s) h2 h3 (by omega)).2] at HI4
      clear htn hab has hrb hrs
      generalize (Lg10.more l s).extract 0 ((Lg10.more l s).size - 1) = MT at *
      generalize Lg10.more l s = M at *
      generalize Lg10.recS s = RS at *
      generalize Lg10.pre l = PR at *
      generalize Lg10.rsL l = RL at *
      generalize Lg10.rsE l = E at *
      obtain ⟨q, hq1, hq2⟩ : ∃ q : Nat, Int.tmod c3 ((RS.size : Int) - 4) = q ∧ q + 4 < RS.size := by
        have a1 : 0 ≤ c3 % ((RS.size : Int) - 4) := Int.emod_nonneg _ (by omega)
        have a2 : c3 % ((RS.size : Int) - 4) < (RS.size : Int) - 4 := Int.emod_lt_of_pos _ (by omega)
        exact ⟨(c3 % ((RS.size : Int) - 4)).toNat, by rw [Int.tmod_eq_emod_of_nonneg lb3]; omega, by omega⟩
      obtain ⟨i, hi⟩ : ∃ i : Nat, E + 4 + q = i := ⟨_, rfl⟩
      have hiI : (E : Int) + 4 + (q : Int) = (i : Int) := by omega
      have hiM : i < M.size := by omega
      have hiMI : (i : Int) < (M.size : Int) := by omega
      have hi0 : (0 : Int) ≤ (i : Int) := by omega
      have hRn : ¬ (RS.size : Int) - 4 = 0 := by omega
      have HRZ : Hid (RS.size = s.size + 8) := hrz
      have hR1 : (8 : Int) ≤ (RS.size : Int) := by omega
      have hR2 : (RS.size : Int) ≤ 3008 := by omega
      have hM1 : (1 : Int) ≤ (M.size : Int) := by omega
      have hM2 : (M.size : Int) ≤ 4000 := by omega
      have hsp := HSP.out ⟨(M.data.toList.set i (M[i] ^^^ 1)).toArray⟩ i (M[i] ^^^ 1) (by omega) hiM rfl (fun e => xor_one M[i] e)
      have hm5 : (⟨(M.data.toList.set i (M[i] ^^^ 1)).toArray⟩ : ByteArray).size ≤ maxLen := by
        rw [sz_set]
        unfold maxLen
        omega
      have HI5 : Hid (∀ W, _) := fun W => Lg10.implRecords_val ⟨(M.data.toList.set i (M[i] ^^^ 1)).toArray⟩ W hm5
      rw [hsp.1, hsp.2] at HI5
      clear hsp HSP hrz hms hep hi hq2 hm5
      go_wp2_with fail
      refine (HI1.out _).mono ?_
      rintro e w3 ⟨⟨v1, rfl, O1⟩, L3⟩
      have T1 := Gt.own_txts O1
      obtain ⟨a1, k1, rfl, -⟩ := Pk.own_form O1
      have K3 := Pk.join_below L2 L3
      clear O1 HI1 L2 L3
      go_wp2_with fail
      refine (HSR.out _).mono ?_
      rintro e w4 ⟨⟨v2, rfl, O2⟩, L4⟩
      have T2 := Gt.own_txts O2
      obtain ⟨a2, k2, rfl, -⟩ := Pk.own_form O2
      have T1b := T1.on L4
      have K4 := Pk.join_below K3 L4
      clear T1 O2 L4 K3 HSR
      go_wp2_with fail
      refine (HST.out _ _ _ T1b T2).mono ?_
      rintro e w5 ⟨rfl, L5⟩
      have T1c := T1b.on L5
      have K5 := Pk.join_below K4 L5
      clear T1b T2 K4 L5
      go_wp2_with fail
      refine (HIA.out _).mono ?_
      rintro e w6 ⟨rfl, L6⟩
      have T1d := T1c.on L6
      have K6 := Pk.join_below K5 L6
      clear T1c K5 L6 HIA
      go_wp2_with fail
      refine (HIC.out _).mono ?_
      rintro e w7 ⟨rfl, L7⟩
      have T1e := T1d.on L7
      have K7 := Pk.join_below K6 L7
      clear T1d K6 L7 HIC
      go_wp2_with fail
      refine (HSC.out _).mono ?_
      rintro e w8 ⟨rfl, L8⟩
      have T1f := T1e.on L8
      have K8 := Pk.join_below K7 L8
      clear T1e K7 L8 HSC
      go_wp2_with fail
      refine (HI3.out _).mono ?_
      rintro e w9 ⟨⟨v3, rfl, O3⟩, L9⟩
      rw [show (RL ++ [s]).length = RL.length + 1 from by simp] at O3
      have T1g := T1f.on L9
      have K9 := Pk.join_below K8 L9
      obtain ⟨g3, k3, rfl, -, hg3, u3, hu3, hc3⟩ := Pk.own_at O3 RL.length (by omega)
      have hus : u3 = .string s := by
        have := Gt.tcells_at (RL ++ [s]) RL.length (by simp)
        rw [this] at hu3
        simpa using hu3.symm
      subst hus
      clear T1f K8 HI3 O3 hu3
      go_wp2_with fail
      refine (HTN.out _).mono ?_
      rintro e w10 ⟨rfl, L10⟩
      have T1h := T1g.on L10
      have hc3b : w10.cell? ⟨g3, RL.length, none⟩ = some (.string s) := by rw [L10.cell (p := ⟨g3, RL.length, none⟩) hg3]; exact hc3
      have hg3b := Nat.lt_of_lt_of_le hg3 L10.size
      have K10 := Pk.join_below K9 L10
      clear T1g K9 L9 L10 hg3 hc3 HTN
      go_wp2_with fail
      refine (HI4.out _).mono ?_
      rintro e w11 ⟨⟨v4, rfl, O4⟩, L11⟩
      have T4 := Gt.own_txts O4
      obtain ⟨a4, k4, rfl, -⟩ := Pk.own_form O4
      have T1i := T1h.on L11
      have hc3c : w11.cell? ⟨g3, RL.length, none⟩ = some (.string s) := by rw [L11.cell (p := ⟨g3, RL.length, none⟩) hg3b]; exact hc3b
      have hg3c := Nat.lt_of_lt_of_le hg3b L11.size
      have K11 := Pk.join_below K10 L11
      clear T1h K10 L11 hg3b hc3b HI4 O4
      obtain ⟨g, cp, w12, hrun, hg0, hg1, L12, hcells⟩ := Cur.to_bytes w11 M
      have K12 := Pk.join_below K11 L12
      have hci := hcells i hiM
      have hci1 := hci.1
      have hci2 := hci.2
      have HBK : Hid (_) := back_plain w12 M g cp i (M[i] ^^^ 1) hiM hcells
      have L13 : Below w11.heap.size w11 (w12.setCell ⟨g, i, none⟩ (.int .u8 ((M[i] ^^^ 1).toNat : Int))) := L12.setCell hg0 _
      have hfl := flip_run M[i]
      have HA4 : Hid (∀ _ : Unit, _) := fun _ => HA3.out w12 K12
      clear HA3 hcells hci
      generalize (M[i] ^^^ 1) = fb at *
      generalize M[i] = ob at *
      generalize (⟨(M.data.toList.set i fb).toArray⟩ : ByteArray) = SP at *
      go_wp2_with fail
      refine (HA4.out ()).mono ?_
      rintro e w13 ⟨rfl, hw13⟩
      have hw14 := hw13.symm
      subst hw14
      have hbk := HBK.out
      have T1j := T1i.on L13
      have T4b := T4.on L13
      have hc3d : (w12.setCell ⟨g, i, none⟩ (.int .u8 (fb.toNat : Int))).cell? ⟨g3, RL.length, none⟩ = some (.string s) := by rw [L13.cell (p := ⟨g3, RL.length, none⟩) hg3c]; exact hc3c
      have hg3d := Nat.lt_of_lt_of_le hg3c L13.size
      have K13 := Pk.join_below K11 L13
      clear T1i T4 hc3c hg3c K11 L12 K12 L13 HBK HA4 hw13 hrun
      go_wp2_with fail
      generalize w12.setCell ⟨g, i, none⟩ (.int .u8 (fb.toNat : Int)) = w14 at *
      refine (HI5.out _).mono ?_
      rintro e w15 ⟨⟨v5, rfl, O5⟩, L15⟩
      have T5 := Gt.own_txts O5
      obtain ⟨a5, k5, rfl, -⟩ := Pk.own_form O5
      have T1k := T1j.on L15
      have T4c := T4b.on L15
      have hc3e : w15.cell? ⟨g3, RL.length, none⟩ = some (.string s) := by rw [L15.cell (p := ⟨g3, RL.length, none⟩) hg3d]; exact hc3d
      have K15 := Pk.join_below K13 L15
      clear T1j T4b hc3d hg3d K13 L15 HI5 O5 hbk hci1 hci2
      have hLI : (RL.length : Int) < (RL.length : Int) + 1 := by omega
      have hL0 : (0 : Int) ≤ (RL.length : Int) := by omega
      go_wp2_with fail
      refine (HST.out _ _ _ T4c T1k).mono ?_
      rintro e w16 ⟨rfl, L16⟩
      have T1l := T1k.on L16
      have T5b := T5.on L16
      have K16 := Pk.join_below K15 L16
      clear T1k T4c T5 K15 L16
      go_wp2_with fail
      refine (HST.out _ _ _ T5b T1l).mono ?_
      rintro e w17 ⟨rfl, L17⟩
      have K17 := Pk.join_below K16 L17
      go_wp2
      go_ret
      exact ⟨rfl, K17⟩
    · have hrb : Lg10.rcB s = false := decide_eq_false h3
      have hab : Lg10.apB (Lg10.pre l) s = false := by
        unfold Lg10.apB
        rw [hrb]
        rfl
      have has : Lg10.apS (Lg10.pre l) s = Lg10.pre l := by
        unfold Lg10.apS
        rw [if_neg (by rw [hab]; simp)]
      rw [hab, has] at HIA
      rw [hrb] at HIC HSC
      clear hab has hrb
      generalize Lg10.rcS s = RS at *
      generalize Lg10.pre l = PR at *
      generalize Lg10.rsL l = RL at *
      generalize Lg10.rsE l = E at *
      go_wp2_with fail
      refine (HI1.out _).mono ?_
      rintro e w3 ⟨⟨v1, rfl, O1⟩, L3⟩
      have T1 := Gt.own_txts O1
      obtain ⟨a1, k1, rfl, -⟩ := Pk.own_form O1
      have K3 := Pk.join_below L2 L3
      go_wp2_with fail
      refine (HSR.out _).mono ?_
      rintro e w4 ⟨⟨v2, rfl, O2⟩, L4⟩
      have T2 := Gt.own_txts O2
      obtain ⟨a2, k2, rfl, -⟩ := Pk.own_form O2
      have T1b := T1.on L4
      have K4 := Pk.join_below K3 L4
      go_wp2_with fail
      refine (HST.out _ _ _ T1b T2).mono ?_
      rintro e w5 ⟨rfl, L5⟩
      have K5 := Pk.join_below K4 L5
      go_wp2_with fail
      refine (HIA.out _).mono ?_
      rintro e w6 ⟨rfl, L6⟩
      have K6 := Pk.join_below K5 L6
      go_wp2_with fail
      refine (HIC.out _).mono ?_
      rintro e w7 ⟨rfl, L7⟩
      have K7 := Pk.join_below K6 L7
      go_wp2_with fail
      refine (HSC.out _).mono ?_
      rintro e w8 ⟨rfl, L8⟩
      have K8 := Pk.join_below K7 L8
      go_wp2
      go_ret
      exact ⟨rfl, K8⟩
  · go_enter Try.func3, Try.ntmps3
    go_wp2_with fail
    refine (Cur.big_yes a0 len0 cap0 _ hb).mono ?_
    rintro e w1 ⟨rfl, rfl⟩
    go_wp2
    go_ret
    exact ⟨rfl, Below.refl _ _⟩

set_option maxRecDepth 100000 in
theorem contract (H : Type) (enc : TypeId × Value → H) (W : World) (base : Nat) (args : Array Value) (ds gs : List (DataW H)) (before : List MemPlace)
    (hval : ∀ (j : Nat) t v, Try.f3.params[j]? = some t → args[j]? = some v → Value.okWide Try.prog W .any base t v)
    (hW : DataW.Whole enc Try.prog Try.f3.params.toList Rows.fnRecordsSpec.vars false W args.toList ds gs before) :
    Calls Try.prog 3 args W fun e W' => ∃ v, e = .returned v ∧ Rows.fnRecordsSpec.post enc Try.prog Try.f3 false true false false W args v W' := by
  have hW' := hW
  obtain ⟨p, q, hA0, hV, rfl, hfz, hnd⟩ := hW
  have hA : DataW.TrodAll enc Try.prog W 0 (fun _ => true) true Try.f3.params.toList args.toList ds p := hA0
  rw [Try.params3] at hA hval
  obtain ⟨v0, vs0, d0, ds0, p0, q0, hargs, rfl, rfl, h0, r0⟩ := trodAll_cons hA
  obtain ⟨rfl, rfl, rfl⟩ := trodAll_nil r0
  obtain rfl : args = #[v0] := by cases args; simp_all
  obtain ⟨rfl, rfl⟩ := trodVars_none hV
  have k0 := h0
  have lt0 : ∀ x ∈ p0, x.block < W.heap.size := by obtain ⟨m, hm⟩ := k0; exact DataW.trod_lt m _ _ _ hm
  obtain ⟨a0, len0, cap0, rfl⟩ := okWide_slice Try.underlying22 (hval 0 22 v0 rfl rfl)
  obtain ⟨z0, w0⟩ : ∃ zs, IsRow .u8 W a0 len0 cap0 zs := by
    obtain ⟨fuel, hf⟩ := h0
    rcases open_ints Try.underlying22 Try.underlying5 (by kernel_rfl) hf with ⟨hcs, _⟩ | ⟨x, l, c, zs, hcs, _, hl, hm, hz, _, hcell, hwz⟩
    · simp [Value.cells] at hcs
      obtain ⟨rfl, rfl, rfl⟩ := hcs
      exact ⟨[], .inl ⟨rfl, rfl, rfl, rfl⟩⟩
    · simp [Value.cells] at hcs
      obtain ⟨rfl, rfl, rfl⟩ := hcs
      exact ⟨zs, .inr ⟨_, rfl, hl, hm, by simpa using hz, hcell, hwz⟩⟩
  clear hA0
  refine (walk a0 len0 cap0 z0 W w0  ).mono fun e W' ⟨he, bel⟩ => ?_
  subst he
  exact ⟨_, rfl, _, _, _, [], _, [], hW', trodAll_mk1 (shut_bool Try.underlying4 _), (trodAll_cons_mk (Below.trod Errs.laidOut (by kernel_rfl) (of_decide_eq_true (by kernel_rfl)) k0 bel lt0) trodAll_mk0), rfl, bel.frame _, fun h => by cases h⟩

set_option maxRecDepth 100000 in
theorem lifted (os : Os) (started : os.Started) (H : Type) (enc : TypeId × Value → H) :
    ReturnsInHanded {} Try.checked os 3 .any (Rows.fnRecordsSpec.pre6 enc Try.prog Try.f3 Rows.fnRecordsRow.domain false) (Rows.fnRecordsSpec.post enc Try.prog Try.f3 false true false false) := by
  refine returnsInHanded_of_change (C := Try.checked) Errs.own started (by kernel_rfl) Try.func3
    (ChangeSpec.witness6 (enc := enc) (C := Try.checked) false ⟨#[], #[.slice none 0 0], []⟩ 8 (by kernel_rfl) (by kernel_rfl) (by kernel_rfl) (by kernel_rfl)) ?_
  intro W base args ds gs before hval hW _ _
  exact contract H enc W base args ds gs before hval hW

set_option maxRecDepth 100000 in
theorem over : Rows.fnRecordsRow.holds Try.pinned (OpenSpec.ofChange Rows.fnRecordsSpec) :=
  OpenClaim.holds_of_wide 3 Try.f3 rfl rfl rfl rfl rfl rfl rfl ⟨rfl, rfl, rfl, rfl, rfl⟩ rfl rfl rfl rfl rfl (by kernel_rfl) Try.func3 (by kernel_rfl)
    (of_decide_eq_true (by kernel_rfl)) (by unfold Func.isWrapper; first | (rw [if_pos (by decide +kernel)]; kernel_rfl) | (rw [if_neg (by decide +kernel)]; exact ⟨rfl, rfl⟩))
    (fun os started H enc _ => lifted os started H enc)
end Go.Proofs.Ytdfejmaekdgcdae.fnRecords
namespace Go.Proofs.Ytdfejmaekdgcdae
theorem FnRecords_holds : Rows.FnRecordsSaid := fnRecords.over
end Go.Proofs.Ytdfejmaekdgcdae
