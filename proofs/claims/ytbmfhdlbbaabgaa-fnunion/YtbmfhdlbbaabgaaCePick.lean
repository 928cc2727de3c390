/- Pick of program and model. -/
import Derived.Test.YtbmfhdlbbaabgaaCeCp
namespace Go.Proofs.Ytbmfhdlbbaabgaa
namespace Hn
open Go.ChangeShapes Go.WideShapes Go.ChangeAt Go.RowKit Go.Joins
open Pk (new_below join_below cell_at heap_new frozen_at lt_of kept heap_old Drawn info_of Room own_form own_below own_ge)
set_option linter.unusedSimpArgs false
set_option linter.unusedVariables false

/-- What a place picks. -/
def pick1 (l : List Ct) (p : Int) : List Ct := if inB p 0 ((l.length : Int) - 1) = true then l[p.toNat]?.toList else []

/-- What places pick. -/
def pickL (l : List Ct) (ps : List Int) : List Ct := ps.flatMap (pick1 l)

theorem pick1_len (l : List Ct) (p : Int) : (pick1 l p).length ≤ 1 := by
  unfold pick1
  split
  · cases l[p.toNat]? <;> simp
  · simp

theorem pick_len (l : List Ct) (ps : List Int) : (pickL l ps).length ≤ ps.length := by
  induction ps with
  | nil => simp [pickL]
  | cons p t ih =>
    have h := pick1_len l p
    have e : pickL l (p :: t) = pick1 l p ++ pickL l t := rfl
    rw [e, List.length_append, List.length_cons]
    omega

theorem pick_step {l : List Ct} {ps : List Int} {k : Nat} (hk : k < ps.length) : pickL l (ps.take (k + 1)) = pickL l (ps.take k) ++ pick1 l ps[k] := by
  unfold pickL
  rw [List.take_succ_eq_append_getElem hk, List.flatMap_append]
  simp

theorem pick_no {l : List Ct} {p : Int} (h : inB p 0 ((l.length : Int) - 1) = false) : pick1 l p = [] := by
  unfold pick1
  rw [h]
  rfl

theorem pick_yes {l : List Ct} {q : Nat} (h : q < l.length) : pick1 l (q : Int) = [l[q]] := by
  unfold pick1
  rw [if_pos (by rw [in_is]; omega)]
  simp [h]

theorem six_at {w : World} {p : Ct} : ∀ j u, (cc1 p)[j]? = some u → (w.alloc (.cells #[.int .i64 p.dv, .int .i64 p.no, .int .i64 p.tk, .int .i64 p.tr, .int .i64 p.dy, .int .i64 p.sa] 37)).cell? (Addr.add ⟨w.heap.size, 0, none⟩ j) = some u := by
  intro j u hu
  have hm := heap_new w (.cells #[.int .i64 p.dv, .int .i64 p.no, .int .i64 p.tk, .int .i64 p.tr, .int .i64 p.dy, .int .i64 p.sa] 37)
  have := cell_at hm j
  rw [add_plain, Nat.zero_add, this, ← hu]
  match j with
  | 0 => rfl
  | 1 => rfl
  | 2 => rfl
  | 3 => rfl
  | 4 => rfl
  | 5 => rfl
  | j + 6 => simp [cc1]

theorem cc1_one (p : Ct) : ∀ u ∈ cc1 p, u.oneCell' = true := by
  intro u hu
  simp only [cc1, List.mem_cons, List.not_mem_nil, or_false] at hu
  rcases hu with rfl | rfl | rfl | rfl | rfl | rfl <;> rfl

set_option maxRecDepth 100000 in
set_option maxHeartbeats 4000000 in
theorem implPick_val (a : Option Addr) (l : List Ct) (cap : Nat) (pa : Option Addr) (ps : List Int) (pc : Nat) (w : World) (hz : l.length ≤ 1048576) (hz2 : ps.length ≤ 1048576) (I : Controls w a l) (J : Ints w pa ps) :
    Calls Try.prog 9 #[.slice a l.length cap, .slice pa ps.length pc] w fun e w' => ∃ v, e = .returned v ∧ w'.ownsRow w.heap.size 37 6 v (pickL l ps).length (ccells (pickL l ps)) ∧ Below w.heap.size w w' := by
  obtain ⟨i0, hi, hy0, hy1, hy2⟩ := info_of info_control
  have hw1 : IntKind.i64.wrap ((l.length : Int) - 1) = (l.length : Int) - 1 := by rw [IntKind.wrap_i64]; omega
  go_enter Try.func9, Try.ntmps9
  go_wp2
  have O0 : Hid (w.ownsRow w.heap.size 37 6 (.slice none 0 0) (pickL l (ps.take 0)).length (ccells (pickL l (ps.take 0)))) := none_row _ _ _ _
  go_loopw [5, 10] (fun v i wr => ∃ k : Nat, k ≤ ps.length ∧ i = .int .i64 k ∧ Below w.heap.size w wr ∧ Hid (wr.ownsRow w.heap.size 37 6 v (pickL l (ps.take k)).length (ccells (pickL l (ps.take k))))) (fun _ i _ => ps.length - (intOf i).toNat)
  case atStart => exact ⟨0, by omega, rfl, Below.refl _ _, O0⟩
  case round =>
    obtain ⟨k, hk, rfl, LR, HO⟩ := hrel
    by_cases hkn : k < ps.length
    · obtain ⟨pb, po, rfl, hpl, hpc⟩ := (J.on LR).at k hkn
      have HT : Hid (pickL l (ps.take (k + 1)) = pickL l (ps.take k) ++ pick1 l ps[k]) := pick_step hkn
      have hlen : (pickL l (ps.take k)).length ≤ 1048576 := by
        have := pick_len l (ps.take k)
        rw [List.length_take] at this
        omega
      have HB : Hid (∀ W : World, _) := fun W => btw_val ps[k] 0 ((l.length : Int) - 1) W
      have O1 := HO.out
      obtain ⟨va, vc, rfl, -⟩ := own_form O1
      clear HO
      generalize ps[k] = z at *
      cases hb : inB z 0 ((l.length : Int) - 1)
      · rw [hb] at HB
        have HO6 : Hid (wr.ownsRow w.heap.size 37 6 (.slice va (pickL l (ps.take k)).length vc) (pickL l (ps.take (k + 1))).length (ccells (pickL l (ps.take (k + 1))))) := by
          show wr.ownsRow _ _ _ _ _ _
          rw [HT.out, pick_no hb, List.append_nil]
          exact O1
        clear hb O1 HT
        generalize pickL l (ps.take k) = d at *
        go_wp2_with fail
        refine (HB.out _).mono ?_
        rintro e w1 ⟨rfl, rfl⟩
        go_wp2
        go_roundw
        case rel => exact ⟨k + 1, by omega, by go_num, LR, HO6⟩
        case measure => simp [intOf]; omega
      · rw [hb] at HB
        obtain ⟨q, rfl⟩ : ∃ q : Nat, z = (q : Int) := ⟨z.toNat, by rw [in_is] at hb; omega⟩
        have hq : q < l.length := by rw [in_is] at hb; omega
        have HM : Hid (pickL l (ps.take (k + 1)) = pickL l (ps.take k) ++ [l[q]]) := by
          show _ = _
          rw [HT.out, pick_yes hq]
        obtain ⟨b, u, rfl, hltb, hc0, hc1, hc2, hc3, hc4, hc5⟩ := (I.on LR).at q hq
        generalize l[q] = p at *
        have N5 := new_below wr (.cells #[.int .i64 p.dv, .int .i64 p.no, .int .i64 p.tk, .int .i64 p.tr, .int .i64 p.dy, .int .i64 p.sa] 37)
        have L5 := join_below LR N5
        have O5 := own_below O1 N5 (Nat.le_refl _)
        clear hb O1 HT
        generalize pickL l (ps.take k) = d at *
        go_wp2_with fail
        refine (HB.out _).mono ?_
        rintro e w1 ⟨rfl, rfl⟩
        go_wp2_with (at_builtin; refine wpList_append_own_at _ rfl _ _ 25 rfl w.heap.size 37 i0 (lgV ⟨0, 0, 0, 0, 0, 0⟩) 6 48 Try.underlying25 hi hy0 hy1 hy2 rfl (by decide) _ _ _ rfl O5 ⟨w1.heap.size, 0, none⟩ 1 1 (cc1 p) rfl rfl ?c1 ?c2 ?c3 ?c4 ?c5 ?_)
        all_goals try (first | exact six_at | exact cc1_one p)
        case c3 => first | (unfold maxLen; omega) | omega
        case c4 => omega
        case c5 => first | (have := LR.size; omega) | (simp; have := LR.size; omega)
        intro v' w6 O6 G6 _ _
        have L6 : Below w.heap.size w w6 := L5.grown G6 L5.size (fun j hj => (O5.lt j hj).1)
        have HO6 : Hid (w6.ownsRow w.heap.size 37 6 v' (pickL l (ps.take (k + 1))).length (ccells (pickL l (ps.take (k + 1))))) := by
          show w6.ownsRow _ _ _ _ _ _
          rw [ccells_snoc] at O6
          rw [HM.out]
          simpa using O6
        clear O5 O6 G6 N5 L5 HM
        go_wp2
        go_roundw
        case rel => exact ⟨k + 1, by omega, by go_num, L6, HO6⟩
        case measure => simp [intOf]; omega
    · obtain rfl : k = ps.length := by omega
      have O1 := HO.out
      rw [List.take_length] at O1
      obtain ⟨va, vc, rfl, -⟩ := own_form O1
      have HO2 : Hid (_) := O1
      clear HO O1 hkn
      go_wp2
      go_ret
      exact ⟨_, rfl, HO2.out, LR⟩

set_option maxRecDepth 100000 in
set_option maxHeartbeats 4000000 in
theorem specPick_val (a : Option Addr) (l : List Ct) (cap : Nat) (pa : Option Addr) (ps : List Int) (pc : Nat) (w : World) (hz : l.length ≤ 1048576) (hz2 : ps.length ≤ 1048576) (I : Controls w a l) (J : Ints w pa ps) :
    Calls Try.prog 10 #[.slice a l.length cap, .slice pa ps.length pc] w fun e w' => ∃ v, e = .returned v ∧ w'.ownsRow w.heap.size 37 6 v (pickL l ps).length (ccells (pickL l ps)) ∧ Below w.heap.size w w' := by
  obtain ⟨i0, hi, hy0, hy1, hy2⟩ := info_of info_control
  have hw1 : IntKind.i64.wrap ((l.length : Int) - 1) = (l.length : Int) - 1 := by rw [IntKind.wrap_i64]; omega
  go_enter Try.func10, Try.ntmps10
  go_wp2
  have O0 : Hid ((w.alloc (.cells #[] 37)).ownsRow w.heap.size 37 6 (.slice (some ⟨w.heap.size, 0, none⟩) 0 0) (pickL l (ps.take 0)).length (ccells (pickL l (ps.take 0)))) := nil_row _ _ _
  go_loopw [5, 6] (fun v i wr => ∃ k : Nat, k ≤ ps.length ∧ i = .int .i64 k ∧ Below w.heap.size w wr ∧ Hid (wr.ownsRow w.heap.size 37 6 v (pickL l (ps.take k)).length (ccells (pickL l (ps.take k))))) (fun _ i _ => ps.length - (intOf i).toNat)
  case atStart => exact ⟨0, by omega, rfl, new_below _ _, O0⟩
  case round =>
    obtain ⟨k, hk, rfl, LR, HO⟩ := hrel
    by_cases hkn : k < ps.length
    · obtain ⟨pb, po, rfl, hpl, hpc⟩ := (J.on LR).at k hkn
      have HT : Hid (pickL l (ps.take (k + 1)) = pickL l (ps.take k) ++ pick1 l ps[k]) := pick_step hkn
      have hlen : (pickL l (ps.take k)).length ≤ 1048576 := by
        have := pick_len l (ps.take k)
        rw [List.length_take] at this
        omega
      have HB : Hid (∀ W : World, _) := fun W => ins_val ps[k] 0 ((l.length : Int) - 1) W
      have O1 := HO.out
      obtain ⟨va, vc, rfl, -⟩ := own_form O1
      clear HO
      generalize ps[k] = z at *
      cases hb : inB z 0 ((l.length : Int) - 1)
      · rw [hb] at HB
        have HO6 : Hid (wr.ownsRow w.heap.size 37 6 (.slice va (pickL l (ps.take k)).length vc) (pickL l (ps.take (k + 1))).length (ccells (pickL l (ps.take (k + 1))))) := by
          show wr.ownsRow _ _ _ _ _ _
          rw [HT.out, pick_no hb, List.append_nil]
          exact O1
        clear hb O1 HT
        generalize pickL l (ps.take k) = d at *
        go_wp2_with fail
        refine (HB.out _).mono ?_
        rintro e w1 ⟨rfl, rfl⟩
        go_wp2
        go_roundw
        case rel => exact ⟨k + 1, by omega, by go_num, LR, HO6⟩
        case measure => simp [intOf]; omega
      · rw [hb] at HB
        obtain ⟨q, rfl⟩ : ∃ q : Nat, z = (q : Int) := ⟨z.toNat, by rw [in_is] at hb; omega⟩
        have hq : q < l.length := by rw [in_is] at hb; omega
        have HM : Hid (pickL l (ps.take (k + 1)) = pickL l (ps.take k) ++ [l[q]]) := by
          show _ = _
          rw [HT.out, pick_yes hq]
        obtain ⟨b, u, rfl, hltb, hc0, hc1, hc2, hc3, hc4, hc5⟩ := (I.on LR).at q hq
        generalize l[q] = p at *
        have N5 := new_below wr (.cells #[.int .i64 p.dv, .int .i64 p.no, .int .i64 p.tk, .int .i64 p.tr, .int .i64 p.dy, .int .i64 p.sa] 37)
        have L5 := join_below LR N5
        have O5 := own_below O1 N5 (Nat.le_refl _)
        clear hb O1 HT
        generalize pickL l (ps.take k) = d at *
        go_wp2_with fail
        refine (HB.out _).mono ?_
        rintro e w1 ⟨rfl, rfl⟩
        go_wp2_with (at_builtin; refine wpList_append_own_at _ rfl _ _ 25 rfl w.heap.size 37 i0 (lgV ⟨0, 0, 0, 0, 0, 0⟩) 6 48 Try.underlying25 hi hy0 hy1 hy2 rfl (by decide) _ _ _ rfl O5 ⟨w1.heap.size, 0, none⟩ 1 1 (cc1 p) rfl rfl ?c1 ?c2 ?c3 ?c4 ?c5 ?_)
        all_goals try (first | exact six_at | exact cc1_one p)
        case c3 => first | (unfold maxLen; omega) | omega
        case c4 => omega
        case c5 => first | (have := LR.size; omega) | (simp; have := LR.size; omega)
        intro v' w6 O6 G6 _ _
        have L6 : Below w.heap.size w w6 := L5.grown G6 L5.size (fun j hj => (O5.lt j hj).1)
        have HO6 : Hid (w6.ownsRow w.heap.size 37 6 v' (pickL l (ps.take (k + 1))).length (ccells (pickL l (ps.take (k + 1))))) := by
          show w6.ownsRow _ _ _ _ _ _
          rw [ccells_snoc] at O6
          rw [HM.out]
          simpa using O6
        clear O5 O6 G6 N5 L5 HM
        go_wp2
        go_roundw
        case rel => exact ⟨k + 1, by omega, by go_num, L6, HO6⟩
        case measure => simp [intOf]; omega
    · obtain rfl : k = ps.length := by omega
      have O1 := HO.out
      rw [List.take_length] at O1
      obtain ⟨va, vc, rfl, -⟩ := own_form O1
      have HO2 : Hid (_) := O1
      clear HO O1 hkn
      go_wp2
      go_ret
      exact ⟨_, rfl, HO2.out, LR⟩

end Hn
end Go.Proofs.Ytbmfhdlbbaabgaa
