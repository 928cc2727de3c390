/- The program's isFree, holdsBySeat and HoldsOk. -/
import Derived.Test.YtmoinacceildcaaGreatDoorSeAdd
namespace Go.Proofs.YtmoinacceildcaaGreatDoor
namespace Se
open Go.ChangeShapes Go.WideShapes Go.ChangeAt Go.RowKit
open Pk (new_below join_below cell_at heap_new frozen_at lt_of kept heap_old Drawn info_of own_form own_below Room)
set_option linter.unusedSimpArgs false
set_option linter.unusedVariables false

open Go.ChangeMaps (setBlock)

theorem pred_val (p q : Hl) (B : Nat) (w : World) (hB : B < w.heap.size) (hc : Bx w B p) :
    Calls Tryz.prog 135 #[lgV q, .pointer (some ⟨B, 0, none⟩)] w fun e w' => e = .returned (.bool (meetB p q)) ∧ Below w.heap.size w w' := by
  have N := new_below w (.cells #[.int .i64 q.tr, .int .i64 q.dy, .int .i64 q.co, .int .i64 q.se, .int .i64 q.ba, .int .i64 q.be, .int .i64 q.od] 98)
  obtain ⟨x0, x1, x2, x3, x4, x5, x6⟩ := hc.on N hB
  have HM : Hid (∀ w, _) := fun w => implMeet_val p q w
  clear hc
  go_enter Tryz.func135, Tryz.ntmps135
  go_wp2_with fail
  refine (HM.out _).mono ?_
  rintro e w1 ⟨rfl, L1⟩
  go_wp2
  go_ret
  exact ⟨rfl, join_below N L1⟩

set_option maxHeartbeats 1000000 in
theorem indexFunc_val (B : Nat) (p : Hl) (a : Option Addr) (l : List Hl) (cap : Nat) (w : World) (hl : l.length ≤ maxLen) (hB : B < w.heap.size) (hc : Bx w B p) (I : Holds w a l) :
    Calls Tryz.prog 141 #[.slice a l.length cap, .func (.func 135) #[] #[.pointer (some ⟨B, 0, none⟩)]] w fun e w' => (∃ r : Int, e = .returned (.int .i64 r) ∧ Hid (decide (0 ≤ r) = !freeB l p)) ∧ Below w.heap.size w w' := by
  unfold maxLen at hl
  go_enter Tryz.func141, Tryz.ntmps141
  go_wp2
  go_loopw [8] (fun i wr => ∃ k : Nat, k ≤ l.length ∧ i = .int .i64 k ∧ Below w.heap.size w wr ∧ Hid (∀ i (hi : i < l.length), i < k → meetB p l[i] = false)) (fun i _ => l.length - (intOf i).toNat)
  case atStart => exact ⟨0, by omega, rfl, Below.refl _ _, fun i _ h => by omega⟩
  case round =>
    obtain ⟨k, hk, rfl, L, H⟩ := hrel
    by_cases hkn : k < l.length
    · obtain ⟨b, o, rfl, hlt, c0, c1, c2, c3, c4, c5, c6⟩ := (I.on L).at k hkn
      have hB1 : B < wr.heap.size := Nat.lt_of_lt_of_le hB L.size
      have HC : Hid (_) := hc.on L hB
      have HM : Hid (∀ w, _ → _ → _) := fun w => pred_val p l[k] B w
      by_cases e : meetB p l[k] = true
      · rw [e] at HM
        have HE : Hid (decide (0 ≤ (k : Int)) = !freeB l p) := by
          have h1 := free_no (i := l.length) hkn hkn e
          rw [List.take_length] at h1
          show _ = _
          rw [h1]
          simp
        clear e H
        generalize l[k] = q at *
        go_wp2_with fail
        refine (HM.out _ hB1 HC.out).mono ?_
        rintro e w1 ⟨rfl, L1⟩
        have L2 := join_below L L1
        go_wp2
        go_ret
        exact ⟨⟨_, rfl, HE⟩, L2⟩
      · have e : meetB p l[k] = false := Bool.eq_false_iff.2 e
        rw [e] at HM
        have HE : Hid (∀ i (hi : i < l.length), i < k + 1 → meetB p l[i] = false) := by
          intro i hi hik
          by_cases h : i = k
          · subst h; exact e
          · exact H.out i hi (by omega)
        clear e H
        generalize l[k] = q at *
        go_wp2_with fail
        refine (HM.out _ hB1 HC.out).mono ?_
        rintro e w1 ⟨rfl, L1⟩
        have L2 := join_below L L1
        go_wp2
        go_roundw
        case rel => exact ⟨k + 1, by omega, by go_num, L2, HE⟩
        case measure => simp [intOf]; omega
    · have HE : Hid (decide (0 ≤ (-1 : Int)) = !freeB l p) := by
        have h1 := free_yes (l := l) (h := p) (i := l.length) fun i hi h => H.out i hi (by omega)
        rw [List.take_length] at h1
        show _ = _
        rw [h1]
        simp
      clear H
      go_wp2
      go_ret
      exact ⟨⟨_, rfl, HE⟩, L⟩

theorem contains_val (B : Nat) (p : Hl) (a : Option Addr) (l : List Hl) (cap : Nat) (w : World) (hl : l.length ≤ maxLen) (hB : B < w.heap.size) (hc : Bx w B p) (I : Holds w a l) :
    Calls Tryz.prog 134 #[.slice a l.length cap, .func (.func 135) #[] #[.pointer (some ⟨B, 0, none⟩)]] w fun e w' => e = .returned (.bool (!freeB l p)) ∧ Below w.heap.size w w' := by
  have HC := indexFunc_val B p a l cap w hl hB hc I
  generalize l.length = n at *
  go_enter Tryz.func134, Tryz.ntmps134
  go_wp2_with fail
  refine HC.mono ?_
  rintro e w1 ⟨⟨r, rfl, H⟩, L1⟩
  go_wp2
  go_ret
  exact ⟨by rw [← H.out] <;> rfl, L1⟩

theorem isFree_val (B b : Nat) (f : Ky → List Hl) (es : Array MapEntry) (clock : Nat) (p : Hl) (w : World) (hk : Wf p) (hn : (f (key p)).length ≤ maxLen) (M : Mp B b f es clock w) :
    Calls Tryz.prog 115 #[.map (some b), lgV p] w fun e w' => e = .returned (.bool (freeB (f (key p)) p)) ∧ Below w.heap.size w w' := by
  obtain ⟨v0, hl0, O0, -⟩ := M.look (key p) hk.key
  obtain ⟨va, vc, rfl, I0⟩ := own_holds O0
  have N := new_below w (.cells #[.int .i64 p.tr, .int .i64 p.dy, .int .i64 p.co, .int .i64 p.se, .int .i64 p.ba, .int .i64 p.be, .int .i64 p.od] 98)
  have HB : Hid (Bx (w.alloc (.cells #[.int .i64 p.tr, .int .i64 p.dy, .int .i64 p.co, .int .i64 p.se, .int .i64 p.ba, .int .i64 p.be, .int .i64 p.od] 98)) w.heap.size p) := Bx.of (heap_new _ _)
  have hcW : w.heap.size < (w.alloc (.cells #[.int .i64 p.tr, .int .i64 p.dy, .int .i64 p.co, .int .i64 p.se, .int .i64 p.ba, .int .i64 p.be, .int .i64 p.od] 98)).heap.size := by simp
  have HK : Hid (∀ w, _) := fun w => key_val p w
  have HL : Hid (∀ w1, Below w.heap.size w w1 → (Instr.lookup 141 (.map (some b)) (.agg #[.int .i64 p.tr, .int .i64 p.dy, .int .i64 p.co, .int .i64 p.se]) false).run Tryz.prog w1 = .ok _ w1) := fun w1 L => hl0 w1 (kept L (lt_of M.blk) M.blk)
  have HC : Hid (∀ w1, Below w.heap.size w w1 → w.heap.size < w1.heap.size → Bx w1 w.heap.size p → Calls Tryz.prog 134 #[.slice va (f (key p)).length vc, .func (.func 135) #[] #[.pointer (some ⟨w.heap.size, 0, none⟩)]] w1 fun e w' => e = .returned (.bool (!freeB (f (key p)) p)) ∧ Below w1.heap.size w1 w') := fun w1 L h1 h2 => contains_val w.heap.size p va (f (key p)) vc w1 hn h1 h2 (I0.on L)
  clear hl0 O0 M I0 hn
  generalize (f (key p)).length = n at *
  generalize freeB (f (key p)) p = R at *
  generalize hW : w.alloc (.cells #[.int .i64 p.tr, .int .i64 p.dy, .int .i64 p.co, .int .i64 p.se, .int .i64 p.ba, .int .i64 p.be, .int .i64 p.od] 98) = W at *
  have HW : Hid (_) := hW
  clear hW
  go_enter Tryz.func115, Tryz.ntmps115
  go_wp2_with fail
  rw [HW.out]
  obtain ⟨x0, x1, x2, x3, x4, x5, x6⟩ := HB.out
  go_wp2_with fail
  refine (HK.out _).mono ?_
  rintro e w1 ⟨rfl, L1⟩
  have L2 := join_below N L1
  have hlk := HL.out w1 L2
  go_wp2_with fail
  refine (HC.out _ L2 (Nat.lt_of_lt_of_le hcW L1.size) (HB.out.on L1 hcW)).mono ?_
  rintro e w2 ⟨rfl, L3⟩
  go_wp2
  go_ret
  exact ⟨by simp, join_below L2 L3⟩

/-- The holds of a list by their seats. -/
def grp (l : List Hl) (k : Ky) : List Hl := l.filter fun q => decide (key q = k)

theorem grp_nil : grp [] = fun _ => [] := rfl

theorem grp_more (l : List Hl) (p : Hl) : more (grp l) (key p) p = grp (l ++ [p]) := by
  funext k
  unfold grp
  by_cases e : k = key p
  · subst e
    rw [more_same]
    simp [List.filter_append]
  · rw [more_other _ _ _ _ e]
    have : ¬ key p = k := fun h => e h.symm
    simp [List.filter_append, this]

theorem grp_le (l : List Hl) (k : Ky) : (grp l k).length ≤ l.length := List.length_filter_le _ _

theorem free_grp (l : List Hl) (p : Hl) : freeB (grp l (key p)) p = freeB l p := by
  unfold freeB grp
  rw [List.all_filter]
  congr 1
  funext q
  unfold meetB
  by_cases h : key q = key p
  · simp [h]
  · have h2 : ¬ key p = key q := fun e => h e.symm
    simp [h, h2]

theorem Wfs.take {l : List Hl} (h : Wfs l) (k : Nat) (hk : k < l.length) : Wf l[k] := h _ (List.getElem_mem hk)

theorem mk_map (w : World) : (Instr.makeMap 141 none).run Tryz.prog w = .ok (.map (some w.heap.size)) (w.alloc (.map #[] 0)) := by simp [Instr.makeMap, go_sem]

set_option maxRecDepth 100000 in
set_option maxHeartbeats 4000000 in
theorem implHolds_val (a : Option Addr) (l : List Hl) (cap : Nat) (w : World) (hl : l.length ≤ maxLen) (I : Holds w a l) (hwf : Wfs l) :
    Calls Tryz.prog 75 #[.slice a l.length cap] w fun e w' => e = .returned (.bool (holdsB l)) ∧ Below w.heap.size w w' := by
  unfold maxLen at hl
  by_cases h4 : l.length ≤ 400
  · have HBB : Hid (holdsB l = okR (l.take 0) (l.drop 0)) := by simp [holdsB, h4, Hid]
    have d4 : decide (400 < (l.length : Int)) = false := decide_eq_false (by omega)
    have hmk := mk_map
    have M0 := mp_new (w.heap.size + 1) w
    have N := new_below w (.map #[] 0)
    have hs : w.heap.size < (w.alloc (.map #[] 0)).heap.size := by simp
    clear hl
    go_enter Tryz.func75, Tryz.ntmps75
    go_wp2
    generalize w.alloc (.map #[] 0) = W at *
    go_loopw [12] (fun i wr => ∃ k : Nat, k ≤ l.length ∧ i = .int .i64 k ∧ Below w.heap.size w wr ∧ w.heap.size < wr.heap.size ∧ Hid (∃ es clock, Mp (w.heap.size + 1) w.heap.size (grp (l.take k)) es clock wr) ∧ Hid (holdsB l = okR (l.take k) (l.drop k))) (fun i _ => l.length - (intOf i).toNat)
    case atStart => exact ⟨0, by omega, rfl, N, hs, ⟨_, _, M0⟩, HBB⟩
    case round =>
      obtain ⟨k, hk, rfl, L, hz, HM, HO⟩ := hrel
      by_cases hkn : k < l.length
      · obtain ⟨b, o, rfl, hlt, c0, c1, c2, c3, c4, c5, c6⟩ := (I.on L).at k hkn
        have HT : Hid (_) := HO.out.trans (okR_step l k hkn)
        obtain ⟨es, clock, M⟩ := HM.out
        have hw := hwf.take k hkn
        have HE : Hid (more (grp (l.take k)) (key l[k]) l[k] = grp (l.take (k + 1))) := by
          show _ = _
          rw [grp_more, List.take_succ_eq_append_getElem hkn]
        have HG : Hid ((grp (l.take k) (key l[k])).length ≤ 1048576) := by
          have h1 := grp_le (l.take k) (key l[k])
          rw [List.length_take] at h1
          show _ ≤ _
          omega
        have HF : Hid (freeB (grp (l.take k) (key l[k])) l[k] = freeB (l.take k) l[k]) := free_grp _ _
        clear HO HM HBB M0
        generalize l[k] = p at *
        have N2 := new_below wr (.cells #[.int .i64 p.tr, .int .i64 p.dy, .int .i64 p.co, .int .i64 p.se, .int .i64 p.ba, .int .i64 p.be, .int .i64 p.od] 98)
        have HB : Hid (Bx (wr.alloc (.cells #[.int .i64 p.tr, .int .i64 p.dy, .int .i64 p.co, .int .i64 p.se, .int .i64 p.ba, .int .i64 p.be, .int .i64 p.od] 98)) wr.heap.size p) := Bx.of (heap_new _ _)
        have hbz : wr.heap.size < (wr.alloc (.cells #[.int .i64 p.tr, .int .i64 p.dy, .int .i64 p.co, .int .i64 p.se, .int .i64 p.ba, .int .i64 p.be, .int .i64 p.od] 98)).heap.size := by simp
        have L2 := join_below L N2
        have M2 := M.on N2
        have hz2 : w.heap.size < (wr.alloc (.cells #[.int .i64 p.tr, .int .i64 p.dy, .int .i64 p.co, .int .i64 p.se, .int .i64 p.ba, .int .i64 p.be, .int .i64 p.od] 98)).heap.size := by omega
        have HK : Hid (∀ w, _) := fun w => holdOk_val p w
        have HFR : Hid (∀ wx, Below (wr.alloc (.cells #[.int .i64 p.tr, .int .i64 p.dy, .int .i64 p.co, .int .i64 p.se, .int .i64 p.ba, .int .i64 p.be, .int .i64 p.od] 98)).heap.size (wr.alloc (.cells #[.int .i64 p.tr, .int .i64 p.dy, .int .i64 p.co, .int .i64 p.se, .int .i64 p.ba, .int .i64 p.be, .int .i64 p.od] 98)) wx → Calls Tryz.prog 115 #[.map (some w.heap.size), lgV p] wx fun e w' => e = .returned (.bool (freeB (l.take k) p)) ∧ Below wx.heap.size wx w') := by
          intro wx Lx
          rw [← HF.out]
          exact isFree_val _ _ _ _ _ p wx hw (by have := HG.out; unfold maxLen; omega) (M2.on Lx)
        have HAD : Hid (∀ wx, Below (wr.alloc (.cells #[.int .i64 p.tr, .int .i64 p.dy, .int .i64 p.co, .int .i64 p.se, .int .i64 p.ba, .int .i64 p.be, .int .i64 p.od] 98)).heap.size (wr.alloc (.cells #[.int .i64 p.tr, .int .i64 p.dy, .int .i64 p.co, .int .i64 p.se, .int .i64 p.ba, .int .i64 p.be, .int .i64 p.od] 98)) wx → Calls Tryz.prog 116 #[.map (some w.heap.size), lgV p] wx fun e w' => e = .returned (.tuple #[]) ∧ (∃ es' clock', Mp (w.heap.size + 1) w.heap.size (grp (l.take (k + 1))) es' clock' w') ∧ Below w.heap.size wx w') := by
          intro wx Lx
          rw [← HE.out]
          exact add_val _ _ _ _ _ p wx hw HG.out (by omega) (Nat.le_trans hz2 Lx.size) (M2.on Lx)
        clear M HG HE hw HF M2
        by_cases hh : holdB p = true
        · rw [hh] at HK
          have HT2 : Hid (holdsB l = (freeB (l.take k) p && okR (l.take (k + 1)) (l.drop (k + 1)))) := by
            have := HT.out
            rw [hh, Bool.true_and] at this
            exact this
          clear HT hh
          by_cases hf : freeB (l.take k) p = true
          · rw [hf] at HFR
            have HT3 : Hid (holdsB l = okR (l.take (k + 1)) (l.drop (k + 1))) := by
              have := HT2.out
              rw [hf, Bool.true_and] at this
              exact this
            clear HT2 hf
            go_wp2_with fail
            refine (HK.out _).mono ?_
            rintro e w3 ⟨rfl, L3⟩
            obtain ⟨x0, x1, x2, x3, x4, x5, x6⟩ := HB.out.on L3 hbz
            go_wp2_with fail
            refine (HFR.out _ L3).mono ?_
            rintro e w4 ⟨rfl, L4⟩
            have L5 := join_below L3 L4
            clear x0 x1 x2 x3 x4 x5 x6
            obtain ⟨x0, x1, x2, x3, x4, x5, x6⟩ := HB.out.on L5 hbz
            go_wp2_with fail
            refine (HAD.out _ L5).mono ?_
            rintro e w6 ⟨rfl, HM6, L6⟩
            have HM7 : Hid (_) := HM6
            have L7 := (join_below L2 L5).trans L6
            have hz7 : w.heap.size < w6.heap.size := by have := L5.size; have := L6.size; omega
            clear HM6 HFR HAD HK L3 L4 L5 L6 HB x0 x1 x2 x3 x4 x5 x6
            go_wp2
            go_roundw
            case rel => exact ⟨k + 1, by omega, by go_num, L7, hz7, HM7, HT3⟩
            case measure => simp [intOf]; omega
          · have hf : freeB (l.take k) p = false := Bool.eq_false_iff.2 hf
            rw [hf] at HFR
            have HV : Hid (holdsB l = false) := by
              have := HT2.out
              rw [hf, Bool.false_and] at this
              exact this
            clear HT2 hf
            go_wp2_with fail
            refine (HK.out _).mono ?_
            rintro e w3 ⟨rfl, L3⟩
            obtain ⟨x0, x1, x2, x3, x4, x5, x6⟩ := HB.out.on L3 hbz
            go_wp2_with fail
            refine (HFR.out _ L3).mono ?_
            rintro e w4 ⟨rfl, L4⟩
            have L5 := join_below L3 L4
            go_wp2
            go_ret
            exact ⟨by rw [HV.out] <;> rfl, join_below L2 L5⟩
        · have hh : holdB p = false := Bool.eq_false_iff.2 hh
          rw [hh] at HK
          have HV : Hid (holdsB l = false) := by
            have := HT.out
            rw [hh, Bool.false_and] at this
            exact this
          clear HT hh HFR HAD
          go_wp2_with fail
          refine (HK.out _).mono ?_
          rintro e w3 ⟨rfl, L3⟩
          go_wp2
          go_ret
          exact ⟨by rw [HV.out] <;> rfl, join_below L2 L3⟩
      · have HV : Hid (holdsB l = true) := HO.out.trans (okR_end l k (by omega))
        go_wp2
        go_ret
        exact ⟨by rw [HV.out] <;> rfl, L⟩
  · have HBB : Hid (holdsB l = false) := by simp [holdsB, h4, Hid]
    have d4 : decide (400 < (l.length : Int)) = true := decide_eq_true (by omega)
    clear h4
    go_enter Tryz.func75, Tryz.ntmps75
    go_wp2
    go_ret
    exact ⟨by rw [HBB.out] <;> rfl, Below.refl _ _⟩

end Se
end Go.Proofs.YtmoinacceildcaaGreatDoor
