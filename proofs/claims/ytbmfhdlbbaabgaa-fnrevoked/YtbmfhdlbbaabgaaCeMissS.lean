/- Missing of the model. -/
import Derived.Test.YtbmfhdlbbaabgaaCeMiss
namespace Go.Proofs.Ytbmfhdlbbaabgaa
namespace Hn
open Go.ChangeShapes Go.WideShapes Go.ChangeAt Go.RowKit Go.Joins
open Pk (new_below join_below cell_at heap_new frozen_at lt_of kept heap_old Drawn info_of Room own_form own_below own_ge)
set_option linter.unusedSimpArgs false
set_option linter.unusedVariables false

theorem most_step {dv m : Int} {l : List Ct} {k : Nat} (hk : k < l.length) : mostF dv m (l.drop k) = mostF dv (if l[k].dv = dv ∧ m < l[k].no then l[k].no else m) (l.drop (k + 1)) := by
  rw [List.drop_eq_getElem_cons hk]
  rfl

set_option maxRecDepth 100000 in
set_option maxHeartbeats 4000000 in
theorem specMiss_val (x : Pl) (o : Ctr) (dv : Int) (w : World) (hz2 : o.sl.length ≤ 1048576) (I : In w x o) :
    Calls Try.prog 25 #[ceV x o, .int .i64 dv] w fun e w' => ∃ v, e = .returned v ∧ w'.ownsRow w.heap.size 3 1 v (missL dv o.sl).length (icells (missL dv o.sl)) ∧ Below w.heap.size w w' := by
  obtain ⟨xa, xc, xb, xd⟩ := x
  obtain ⟨i0, hi, hz0, hz1, hz3⟩ := info_of intInfo
  have N0 := new_below w (ceB ⟨xa, xc, xb, xd⟩ o 27)
  have m0 := heap_new w (ceB ⟨xa, xc, xb, xd⟩ o 27)
  have IS : Controls _ xb o.sl := I.seen.on N0
  have HL : Hid (missL dv o.sl = missF dv o.sl (topN dv o.sl)) := rfl
  have htop := top_le dv o.sl
  clear I
  go_enter Try.func25, Try.ntmps25
  go_wp2
  obtain ⟨W0, hW0⟩ : ∃ W0, w.alloc (ceB ⟨xa, xc, xb, xd⟩ o 27) = W0 := ⟨_, rfl⟩
  rw [hW0] at N0 m0 IS
  have hW1 : w.alloc (.cells #[.int .i64 o.ve, .slice xa o.ol.length xc, .slice xb o.sl.length xd] 27) = W0 := hW0
  rw [hW1]
  clear hW0 hW1
  have c2 : W0.cell? ⟨w.heap.size, 2, none⟩ = some (.slice xb o.sl.length xd) := cell_at m0 2
  go_loop [5, 6] (fun mo i => ∃ (k : Nat) (m : Int), k ≤ o.sl.length ∧ i = .int .i64 k ∧ mo = .int .i64 m ∧ Hid (mostF dv m (o.sl.drop k) = mostF dv 0 o.sl)) (fun _ i => o.sl.length - (intOf i).toNat)
  case atStart => exact ⟨0, 0, by omega, rfl, rfl, rfl⟩
  case round =>
    obtain ⟨k, m, hk, rfl, rfl, HP⟩ := hrel
    by_cases hkn : k < o.sl.length
    · obtain ⟨b, u, rfl, hltb, hc0, hc1, hc2, hc3, hc4, hc5⟩ := IS.at k hkn
      have HS := (most_step hkn).symm.trans HP.out
      clear HP hc2 hc3 hc4 hc5
      generalize o.sl[k] = p at *
      by_cases h1 : p.dv = dv
      · have d1 : (p.dv == dv) = true := by simp [h1]
        by_cases h2 : m < p.no
        · have d2 : decide (m < p.no) = true := decide_eq_true h2
          rw [if_pos ⟨h1, h2⟩] at HS
          have HN : Hid (_) := HS
          clear h1 h2 HS
          go_wp2
          go_round
          case rel => exact ⟨k + 1, _, by omega, by go_num, rfl, HN⟩
          case measure => simp [intOf]; omega
        · have d2 : decide (m < p.no) = false := decide_eq_false h2
          rw [if_neg fun h => h2 h.2] at HS
          have HN : Hid (_) := HS
          clear h1 h2 HS
          go_wp2
          go_round
          case rel => exact ⟨k + 1, _, by omega, by go_num, rfl, HN⟩
          case measure => simp [intOf]; omega
      · have d1 : (p.dv == dv) = false := by simp [h1]
        rw [if_neg fun h => h1 h.1] at HS
        have HN : Hid (_) := HS
        clear h1 HS
        go_wp2
        go_round
        case rel => exact ⟨k + 1, _, by omega, by go_num, rfl, HN⟩
        case measure => simp [intOf]; omega
    · obtain rfl : k = o.sl.length := by omega
      have hm : m = mostF dv 0 o.sl := by
        have := HP.out
        rw [List.drop_length] at this
        exact this
      have HT : Hid (∀ n : Nat, ((n : Int) ≤ m ∧ (n : Int) ≤ 1000) ↔ n ≤ topN dv o.sl) := fun n => by rw [hm]; exact top_iff dv o.sl n
      clear HP hkn hm
      go_wp2
      generalize topN dv o.sl = T at *
      have N1 := new_below W0 (.cells #[] 3)
      have O0 : Hid ((W0.alloc (.cells #[] 3)).ownsRow W0.heap.size 3 1 (.slice (some ⟨W0.heap.size, 0, none⟩) 0 0) (missF dv o.sl 0).length (icells (missF dv o.sl 0))) := nil_row _ _ _
      go_loopw [7, 8] (fun v i wr => ∃ (k j : Nat), k ≤ T + 1 ∧ Hid (k = j + 1) ∧ i = .int .i64 k ∧ Below W0.heap.size W0 wr ∧ Hid (wr.ownsRow W0.heap.size 3 1 v (missF dv o.sl j).length (icells (missF dv o.sl j)))) (fun _ i _ => T + 1 - (intOf i).toNat)
      case atStart => exact ⟨1, 0, by omega, rfl, rfl, N1, O0⟩
      case round =>
        clear O0 N1
        obtain ⟨k, j, hk, HJ, rfl, LX, HO⟩ := hrel
        have hj := HJ.out
        have mX := kept LX (lt_of m0) m0
        have cX : wr.cell? ⟨w.heap.size, 2, none⟩ = some (.slice xb o.sl.length xd) := cell_at mX 2
        have hTk := HT.out k
        by_cases hkT : k ≤ T
        · have hq := hTk.2 hkT
          have d1 : decide ((k : Int) ≤ m) = true := decide_eq_true hq.1
          have d2 : decide ((k : Int) ≤ 1000) = true := decide_eq_true hq.2
          have d3 : k ≤ 1000 := by omega
          have hmj := miss_len dv o.sl j
          have hj10 : j ≤ 1000 := by omega
          have O1 := HO.out
          obtain ⟨va, vc, rfl, -⟩ := own_form O1
          have JX : Hid (Controls wr xb o.sl) := IS.on LX
          have HO2 : Hid (_) := O1
          have hq1 : (k : Int) ≤ m := hq.1
          have hq2 : (k : Int) ≤ 1000 := hq.2
          clear hTk hq O1 HO mX hj
          go_wp2
          go_loop [9, 10] (fun h i => ∃ q : Nat, q ≤ o.sl.length ∧ i = .int .i64 q ∧ h = .bool (hasN dv (o.sl.take q) k)) (fun _ i => o.sl.length - (intOf i).toNat)
          case atStart => exact ⟨0, by omega, rfl, by simp [hasN]⟩
          case round =>
            obtain ⟨q, hq, rfl, rfl⟩ := hrel
            by_cases hqn : q < o.sl.length
            · obtain ⟨b, u, rfl, hltb, hc0, hc1, hc2, hc3, hc4, hc5⟩ := JX.out.at q hqn
              have HF : Hid (hasN dv (o.sl.take (q + 1)) k = (hasN dv (o.sl.take q) k || (decide (o.sl[q].dv = dv) && decide (o.sl[q].no = k)))) := has_step hqn k
              clear hc2 hc3 hc4 hc5
              generalize o.sl[q] = p at *
              cases hv : hasN dv (o.sl.take q) k
              · by_cases h1 : p.dv = dv
                · have e1 : (p.dv == dv) = true := by simp [h1]
                  by_cases h2 : p.no = k
                  · have e2 : (p.no == (k : Int)) = true := by simp [h2]
                    have HN : Hid (hasN dv (o.sl.take (q + 1)) k = true) := by show _ = _; rw [HF.out, hv, decide_eq_true h1, decide_eq_true h2]; rfl
                    clear h1 h2 HF hv
                    go_wp2
                    go_round
                    case rel => exact ⟨q + 1, by omega, by go_num, by rw [HN.out]⟩
                    case measure => simp [intOf]; omega
                  · have e2 : (p.no == (k : Int)) = false := by simp [h2]
                    have HN : Hid (hasN dv (o.sl.take (q + 1)) k = false) := by show _ = _; rw [HF.out, hv, decide_eq_false h2, Bool.and_false]; rfl
                    clear h1 h2 HF hv
                    go_wp2
                    go_round
                    case rel => exact ⟨q + 1, by omega, by go_num, by rw [HN.out]⟩
                    case measure => simp [intOf]; omega
                · have e1 : (p.dv == dv) = false := by simp [h1]
                  have HN : Hid (hasN dv (o.sl.take (q + 1)) k = false) := by show _ = _; rw [HF.out, hv, decide_eq_false h1]; rfl
                  clear h1 HF hv
                  go_wp2
                  go_round
                  case rel => exact ⟨q + 1, by omega, by go_num, by rw [HN.out]⟩
                  case measure => simp [intOf]; omega
              · have HN : Hid (hasN dv (o.sl.take (q + 1)) k = true) := by show _ = _; rw [HF.out, hv]; rfl
                clear HF hv
                go_wp2
                go_round
                case rel => exact ⟨q + 1, by omega, by go_num, by rw [HN.out]⟩
                case measure => simp [intOf]; omega
            · obtain rfl : q = o.sl.length := by omega
              rw [List.take_length]
              cases hv : hasN dv o.sl (k : Int)
              · have HM : Hid (missF dv o.sl k = missF dv o.sl j ++ [(k : Int)]) := miss_no HJ.out hv
                have N5 := new_below wr (.cells #[.int .i64 (k : Int)] 3)
                have LX5 := join_below LX N5
                have O5 := own_below HO2.out N5 (Nat.le_refl _)
                clear hv HO2 hqn
                generalize missF dv o.sl j = d at *
                go_wp2_with (at_builtin; refine wpList_append_own_at _ rfl _ _ 24 rfl W0.heap.size 3 i0 (.int .i64 0) 1 8 Try.underlying24 hi hz0 hz1 hz3 rfl (by decide) _ _ _ rfl O5 ⟨wr.heap.size, 0, none⟩ 1 1 [.int .i64 (k : Int)] rfl rfl ?c1 ?c2 ?c3 ?c4 ?c5 ?_)
                all_goals try (first | exact one_new _ _ _ | rfl | (intro u hu; simp at hu; subst hu; rfl))
                case c3 => first | (unfold maxLen; omega) | omega
                case c4 => omega
                case c5 => first | (have := LX.size; omega) | (simp; have := LX.size; omega)
                intro v' w6 O6 G6 _ _
                have L6 : Below W0.heap.size W0 w6 := LX5.grown G6 LX5.size (fun j hj => (O5.lt j hj).1)
                have HO6 : Hid (w6.ownsRow W0.heap.size 3 1 v' (missF dv o.sl k).length (icells (missF dv o.sl k))) := by
                  show w6.ownsRow _ _ _ _ _ _
                  rw [icells_snoc] at O6
                  rw [HM.out]
                  simpa using O6
                clear O5 O6 G6 N5 LX5 HM
                go_wp2
                go_roundw
                case rel => exact ⟨k + 1, k, by omega, rfl, by go_num, L6, HO6⟩
                case measure => simp [intOf]; omega
              · have HM : Hid (missF dv o.sl k = missF dv o.sl j) := miss_yes HJ.out hv
                have HO6 : Hid (wr.ownsRow W0.heap.size 3 1 (.slice va (missF dv o.sl j).length vc) (missF dv o.sl k).length (icells (missF dv o.sl k))) := by
                  show wr.ownsRow _ _ _ _ _ _
                  rw [HM.out]
                  exact HO2.out
                clear hv HO2 HM hqn
                go_wp2
                go_roundw
                case rel => exact ⟨k + 1, k, by omega, rfl, by go_num, LX, HO6⟩
                case measure => simp [intOf]; omega
        · obtain rfl : j = T := by omega
          have O1 := HO.out
          obtain ⟨va, vc, rfl, -⟩ := own_form O1
          have O2 : Hid (wr.ownsRow w.heap.size 3 1 (.slice va (missF dv o.sl j).length vc) (missF dv o.sl j).length (icells (missF dv o.sl j))) := own_lower O1 N0.size
          have LL := N0.trans (LX.mono N0.size)
          have hno : ¬ ((k : Int) ≤ m ∧ (k : Int) ≤ 1000) := fun h => hkT (hTk.1 h)
          clear HO O1 LX hj mX hTk
          by_cases h1 : (k : Int) ≤ m
          · have d1 : decide ((k : Int) ≤ m) = true := decide_eq_true h1
            have d2 : ¬ (k : Int) ≤ 1000 := fun h => hno ⟨h1, h⟩
            have d3 : ¬ k ≤ 1000 := by omega
            clear h1 hno
            go_wp2
            go_ret
            exact ⟨_, rfl, by rw [HL.out]; exact O2.out, LL⟩
          · have d1 : decide ((k : Int) ≤ m) = false := decide_eq_false h1
            clear h1 hno
            go_wp2
            go_ret
            exact ⟨_, rfl, by rw [HL.out]; exact O2.out, LL⟩

end Hn
end Go.Proofs.Ytbmfhdlbbaabgaa
