/- The hops with which a way goes on to an end that is as good: the program's iterator. -/
import Derived.RangeFuncNested
import Derived.RangeFuncBound
import Derived.RangeFuncCalls
import Derived.RangeFuncBox
import Derived.RangeFuncLeaves
import Derived.Shelf.Abstract
import Derived.Shelf.RegionOpen
import Derived.WalkKit
import Derived.OwnWalkIn
import Derived.TacticsInMore
import Derived.LoopNIn
import Derived.LoopIn
import Derived.Test.YtfoccmhmgdengaaEaRange
namespace Go.Proofs.Ytfoccmhmgdengaa
namespace Rd
open Go.RowKit Go.Shelf
open Pk (new_below join_below cell_at heap_new frozen_at lt_of kept heap_old info_of)
open Em (WfI Mi)
set_option linter.unusedSimpArgs false
set_option linter.unusedVariables false
attribute [local go_sem] Oper.semAt_some

/-- Whether a way goes on with a hop and is in time. -/
def goodB (L : Int → Option Int) (v : Vw) (h : Hp) : Bool := ((h.r.fr == v.s) && decide (v.y ≤ h.d)) && inT L h
def goodL (H : List Hp) (L : Int → Option Int) (v : Vw) : List Hp := (hopsAt H v.s).filter (goodB L v)

theorem good_iff {H : List Hp} {L : Int → Option Int} {v : Vw} {h : Hp} : h ∈ goodL H L v ↔ h ∈ H ∧ h.r.fr = v.s ∧ v.y ≤ h.d ∧ ∃ t, L h.r.to = some t ∧ h.z + 3 ≤ t := by
  unfold goodL goodB
  rw [List.mem_filter, hopsAt_iff, Bool.and_eq_true, Bool.and_eq_true, beq_iff_eq, decide_eq_true_eq, inT_iff]
  constructor
  · rintro ⟨⟨h1, h2⟩, ⟨-, h3⟩, h4⟩
    exact ⟨h1, h2, h3, h4⟩
  · rintro ⟨h1, h2, h3, h4⟩
    exact ⟨⟨h1, h2⟩, ⟨h2, h3⟩, h4⟩

abbrev srO (v0 : Vw) (tt : Int) (mb : Nat) : Obj := .cells #[.int .i64 v0.s, .int .i64 v0.y, .int .i64 (v0.n : Int), .int .i64 tt, .map (some mb)] 65
abbrev srV (v0 : Vw) (tt : Int) (mb : Nat) : Value := .agg #[.int .i64 v0.s, .int .i64 v0.y, .int .i64 (v0.n : Int), .int .i64 tt, .map (some mb)]
abbrev wyO (v : Vw) : Obj := .cells #[.int .i64 v.s, .int .i64 v.y, .int .i64 (v.n : Int)] 61

set_option maxHeartbeats 1000000 in
theorem asGood_val (v0 v : Vw) (tt : Int) (mb mu : Nat) (w : World) :
    Calls Try.prog 57 #[srV v0 tt mb, vV v, .map (some mu)] w fun e w' => e = .returned (.func (.func 73) #[] #[.pointer (some ⟨w.heap.size, 0, none⟩), .pointer (some ⟨w.heap.size + 1, 0, none⟩), .pointer (some ⟨w.heap.size + 1 + 1, 0, none⟩)]) ∧ w' = ((w.alloc (srO v0 tt mb)).alloc (wyO v)).alloc (.cells #[.map (some mu)] 97) := by
  have e1 : (w.alloc (srO v0 tt mb)).heap.size = w.heap.size + 1 := Array.size_push ..
  have e2 : ((w.alloc (srO v0 tt mb)).alloc (wyO v)).heap.size = w.heap.size + 1 + 1 := (Array.size_push ..).trans (by rw [e1])
  go_enter Try.func57, Try.ntmps57
  go_wp2
  go_ret
  exact ⟨by simp [e1, e2], rfl⟩

set_option maxRecDepth 100000 in
set_option maxHeartbeats 4000000 in
theorem asGood_stops (n : Nat) (hn : 1 ≤ n) (sb wb ub B0 mb mu nu : Nat) (H : List Hp) (es : Array MapEntry) (clock : Nat) (v0 v : Vw) (tt : Int) (L : Int → Option Int) (w w0 : World) (hH : H.length ≤ 64000) (hB : ∀ h ∈ H, WfI h.r.to ∧ WfI h.r.fr ∧ 0 ≤ h.z ∧ h.z ≤ 200000000 ∧ 0 ≤ h.d) (hv : WfI v.s)
    (so : w.heap[sb]? = some (srO v0 tt mb)) (wo : w.heap[wb]? = some (wyO v)) (uo : w.heap[ub]? = some (.cells #[.map (some mu)] 97))
    (M : Em.Mp B0 mb (hopsAt H) es clock w) (I : Mi w mu nu L) (L0 : Below w.heap.size w w0) :
    SeqStopsK Fence.wide n Try.prog 73 #[.pointer (some ⟨sb, 0, none⟩), .pointer (some ⟨wb, 0, none⟩), .pointer (some ⟨ub, 0, none⟩)] (fun x : Hp => #[hpV x]) (Below w.heap.size) (fun ys => ys = goodL H L v) (fun pre => pre <+: goodL H L v) (hopsAt H v.s).length w0 := by
  intro l J Jx W hW hJ _ hY h0
  have LW : Below w.heap.size w W := L0.trans (hW.mono L0.size)
  obtain ⟨ha, hc, lk, HH⟩ := hops_look M hv
  have lkW := lk W LW
  have HHO : Hid (∀ W1, Below w.heap.size w W1 → Hops W1 ha (hopsAt H v.s)) := fun W1 L1 => HH.on L1
  have hub := I.lt
  have HIT : Hid (∀ (h : Hp) (W1 : World), Below w.heap.size w W1 → h ∈ H → Calls Try.prog 74 #[hpV h, .map (some mu)] W1 fun e w' => e = .returned (.bool (inT L h)) ∧ Below W1.heap.size W1 w') := fun h W1 L1 hm => by
    obtain ⟨b1, -, b2, b3, -⟩ := hB h hm
    exact inTime_val h mu nu L W1 (I.on (L1.block _ hub)) b1 b2 b3
  have HWO : Hid (∀ W1, Below w.heap.size w W1 → W1.heap[wb]? = some (wyO v) ∧ W1.heap[ub]? = some (.cells #[.map (some mu)] 97)) := fun W1 L1 => ⟨kept L1 (lt_of wo) wo, kept L1 (lt_of uo) uo⟩
  have s4 : W.cell? ⟨sb, 4, none⟩ = some (.map (some mb)) := cell_at (kept LW (lt_of so) so) 4
  have v0' : W.cell? ⟨wb, 0, none⟩ = some (.int .i64 v.s) := cell_at (kept LW (lt_of wo) wo) 0
  have HJ : Hid (AbidesFrom W.heap.size J) := hJ
  have hN : (hopsAt H v.s).length ≤ 64000 := Nat.le_trans (hopsAt_len H v.s) hH
  have HG : Hid (goodL H L v = (hopsAt H v.s).filter (goodB L v)) := rfl
  have HM : Hid (∀ h ∈ hopsAt H v.s, h ∈ H) := fun h hh => (hopsAt_iff.1 hh).1
  have HHW : Hid (Below w.heap.size w W) := LW
  clear hJ hW L0 so wo uo M I hB HH lk hv hH hub LW
  show CallsIn Fence.wide n Try.prog 73 #[.func (.yield l) #[] #[], .pointer (some ⟨sb, 0, none⟩), .pointer (some ⟨wb, 0, none⟩), .pointer (some ⟨ub, 0, none⟩)] W _
  refine callsIn_of_wp Try.func73 rfl trivial ?_ rfl
  simp only [Try.ntmps73, List.size_toArray, List.length_cons, List.length_nil, Nat.reduceAdd, Nat.reduceSub, Array.replicate_succ, Array.replicate_zero, List.push_toArray, List.append_toArray, List.nil_append, List.cons_append]
  gi_wp2
  clear lkW s4 v0'
  generalize hopsAt H v.s = hs at *
  gi_loopw [13] (fun i wr => ∃ k : Nat, k ≤ hs.length ∧ i = .int .i64 k ∧ J ((hs.take k).filter (goodB L v)) wr ∧ Below w.heap.size W wr) (fun i _ => hs.length - (intOf i).toNat)
  case atStart => exact ⟨0, Nat.zero_le _, rfl, h0, Below.refl _ _⟩
  case round =>
    obtain ⟨k, hk, rfl, hJs, hnx⟩ := hrel
    by_cases hlt : k < hs.length
    · obtain ⟨g, rfl, hg, c0, c1, c2, c3, c4, c5⟩ := HHO.out wr (HHW.out.trans hnx) k hlt
      have HT : Hid (hs.take (k + 1) = hs.take k ++ [hs[k]]) := by simp [Hid]
      have HMM : Hid (hs[k] ∈ H) := HM.out _ (List.getElem_mem hlt)
      generalize hs[k] = h at *
      have LR : Below w.heap.size w wr := HHW.out.trans hnx
      have NX := new_below wr (hpO h)
      have x2 := heap_new wr (hpO h)
      have LX : Below w.heap.size w (wr.alloc (hpO h)) := LR.trans (NX.mono LR.size)
      have z0 : (wr.alloc (hpO h)).cell? ⟨wr.heap.size, 0, none⟩ = some (.int .i64 h.r.tr) := cell_at x2 0
      have z1 : (wr.alloc (hpO h)).cell? ⟨wr.heap.size, 1, none⟩ = some (.int .i64 h.r.dy) := cell_at x2 1
      have z2 : (wr.alloc (hpO h)).cell? ⟨wr.heap.size, 2, none⟩ = some (.int .i64 h.r.fr) := cell_at x2 2
      have z3 : (wr.alloc (hpO h)).cell? ⟨wr.heap.size, 3, none⟩ = some (.int .i64 h.r.to) := cell_at x2 3
      have z4 : (wr.alloc (hpO h)).cell? ⟨wr.heap.size, 4, none⟩ = some (.int .i64 h.d) := cell_at x2 4
      have z5 : (wr.alloc (hpO h)).cell? ⟨wr.heap.size, 5, none⟩ = some (.int .i64 h.z) := cell_at x2 5
      have y0 : (wr.alloc (hpO h)).cell? ⟨wb, 0, none⟩ = some (.int .i64 v.s) := cell_at (HWO.out _ LX).1 0
      have y1 : (wr.alloc (hpO h)).cell? ⟨wb, 1, none⟩ = some (.int .i64 v.y) := cell_at (HWO.out _ LX).1 1
      have y2 : (wr.alloc (hpO h)).cell? ⟨wb, 2, none⟩ = some (.int .i64 (v.n : Int)) := cell_at (HWO.out _ LX).1 2
      have HTA : Hid (∀ W : World, _) := fun W => Tn.takes_val h.r h.d h.z v.s v.y (v.n : Int) W
      obtain ⟨T, hT⟩ : ∃ T, ((h.r.fr == v.s) && decide (v.y ≤ h.d)) = T := ⟨_, rfl⟩
      have HTA : Hid (∀ W : World, Calls Try.prog 38 #[.agg #[.int .i64 v.s, .int .i64 v.y, .int .i64 (v.n : Int)], hpV h] W fun e w' => e = .returned (.bool T) ∧ Below W.heap.size W w') := fun W => by
        have := Tn.takes_val h.r h.d h.z v.s v.y (v.n : Int) W
        rw [hT] at this
        exact this
      have HGB : Hid (goodB L v h = (T && inT L h)) := by show _ = _; unfold goodB; rw [hT]
      have HPRE : Hid (((hs.take k).filter (goodB L v)).length < hs.length) := Nat.lt_of_le_of_lt (List.length_filter_le _ _) (by rw [List.length_take]; omega)
      clear hT NX
      gi_wp2_with fail
      refine ⟨trivial, ?_⟩
      refine (callsIn_wide.2 (HTA.out _)).mono ?_
      rintro e w5 ⟨rfl, L5⟩
      have hnx5 : Below w.heap.size W w5 := (hnx.trans ((new_below wr (hpO h)).mono LR.size)).trans (L5.mono LX.size)
      have LX5 : Below w.heap.size w w5 := HHW.out.trans hnx5
      have J5 : J ((hs.take k).filter (goodB L v)) w5 := HJ.out _ _ _ none (HJ.out _ _ _ none hJs (World.grownBy_alloc wr (hpO h) none) (fun r e => by cases e)) ⟨L5.os, L5.tape, L5.output, L5.size, fun i hi _ => L5.block i hi⟩ (fun r e => by cases e)
      have x5 := kept L5 (lt_of x2) x2
      clear z0 z1 z2 z3 z4 z5 y0 y1 y2 x2 LX L5 LR hJs hnx HTA
      cases T
      · have HF : Hid ((hs.take (k + 1)).filter (goodB L v) = (hs.take k).filter (goodB L v)) := by
          show _ = _
          rw [HT.out, List.filter_append, List.filter_cons_of_neg (by rw [HGB.out]; simp), List.filter_nil, List.append_nil]
        clear x5 LX5
        gi_wp2
        refine ⟨trivial, ?_⟩
        gi_wp2
        refine ⟨fun _ h => (by cases h), ?_⟩
        gi_wp2
        go_roundw
        case rel => exact ⟨k + 1, by omega, by simp, by rw [HF.out]; exact J5, hnx5⟩
        case measure => simp [intOf]; omega
      · have z0 : w5.cell? ⟨wr.heap.size, 0, none⟩ = some (.int .i64 h.r.tr) := cell_at x5 0
        have z1 : w5.cell? ⟨wr.heap.size, 1, none⟩ = some (.int .i64 h.r.dy) := cell_at x5 1
        have z2 : w5.cell? ⟨wr.heap.size, 2, none⟩ = some (.int .i64 h.r.fr) := cell_at x5 2
        have z3 : w5.cell? ⟨wr.heap.size, 3, none⟩ = some (.int .i64 h.r.to) := cell_at x5 3
        have z4 : w5.cell? ⟨wr.heap.size, 4, none⟩ = some (.int .i64 h.d) := cell_at x5 4
        have z5 : w5.cell? ⟨wr.heap.size, 5, none⟩ = some (.int .i64 h.z) := cell_at x5 5
        have uo5 : w5.cell? ⟨ub, 0, none⟩ = some (.map (some mu)) := cell_at (HWO.out _ LX5).2 0
        gi_wp2_with fail
        refine ⟨trivial, ?_⟩
        refine (callsIn_wide.2 (HIT.out h _ LX5 HMM.out)).mono ?_
        rintro e w6 ⟨rfl, L6⟩
        have hnx6 : Below w.heap.size W w6 := hnx5.trans (L6.mono LX5.size)
        have J6 : J ((hs.take k).filter (goodB L v)) w6 := HJ.out _ _ _ none J5 ⟨L6.os, L6.tape, L6.output, L6.size, fun i hi _ => L6.block i hi⟩ (fun r e => by cases e)
        have x6 := kept L6 (lt_of x5) x5
        clear z0 z1 z2 z3 z4 z5 uo5 x5 LX5 L6 J5 hnx5
        generalize inT L h = T2 at *
        cases T2
        · have HF : Hid ((hs.take (k + 1)).filter (goodB L v) = (hs.take k).filter (goodB L v)) := by
            show _ = _
            rw [HT.out, List.filter_append, List.filter_cons_of_neg (by rw [HGB.out]; simp), List.filter_nil, List.append_nil]
          clear x6
          gi_wp2
          refine ⟨fun _ h => (by cases h), ?_⟩
          gi_wp2
          go_roundw
          case rel => exact ⟨k + 1, by omega, by simp, by rw [HF.out]; exact J6, hnx6⟩
          case measure => simp [intOf]; omega
        · have HF : Hid ((hs.take (k + 1)).filter (goodB L v) = (hs.take k).filter (goodB L v) ++ [h]) := by
            show _ = _
            rw [HT.out, List.filter_append, List.filter_cons_of_pos (by rw [HGB.out]; rfl), List.filter_nil]
          have z0 : w6.cell? ⟨wr.heap.size, 0, none⟩ = some (.int .i64 h.r.tr) := cell_at x6 0
          have z1 : w6.cell? ⟨wr.heap.size, 1, none⟩ = some (.int .i64 h.r.dy) := cell_at x6 1
          have z2 : w6.cell? ⟨wr.heap.size, 2, none⟩ = some (.int .i64 h.r.fr) := cell_at x6 2
          have z3 : w6.cell? ⟨wr.heap.size, 3, none⟩ = some (.int .i64 h.r.to) := cell_at x6 3
          have z4 : w6.cell? ⟨wr.heap.size, 4, none⟩ = some (.int .i64 h.d) := cell_at x6 4
          have z5 : w6.cell? ⟨wr.heap.size, 5, none⟩ = some (.int .i64 h.z) := cell_at x6 5
          obtain ⟨fn, tmps, assign, body, hy, hR⟩ := hY _ h w6 J6 HPRE.out
          clear x6
          gi_wp2
          refine hR.mono ?_
          rintro e W3 (⟨rfl, hJ3, hk3⟩ | ⟨rfl, hJx3⟩)
          · gi_wp2
            go_roundw
            case rel => exact ⟨k + 1, by omega, by simp, by rw [HF.out]; exact hJ3, hnx6.trans hk3⟩
            case measure => simp [intOf]; omega
          · gi_wp2
            refine bodyPost_ret (results_none rfl _ _ _) rfl ?_
            exact ⟨⟨_, rfl⟩, .inr ⟨_, by rw [HG.out, ← HF.out]; exact (List.take_prefix _ _).filter _, hJx3⟩⟩
    · obtain rfl : k = hs.length := by omega
      rw [List.take_length, ← HG.out] at hJs
      gi_wp2
      go_end0
      exact ⟨⟨_, rfl⟩, .inl ⟨_, rfl, hJs⟩⟩

end Rd
end Go.Proofs.Ytfoccmhmgdengaa
