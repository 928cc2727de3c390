/- The contract of the model's l06Keep: a way put into a list by its station and hour. -/
import Derived.Test.YtaplbjoghkipdaaDoorEaLess
import Derived.Test.YtaplbjoghkipdaaDoorEaRow
namespace Go.Proofs.YtaplbjoghkipdaaDoor
namespace Rd
open Go.ChangeShapes Go.WideShapes Go.ChangeAt Go.RowKit
open Pk (new_below join_below cell_at heap_new frozen_at lt_of kept heap_old info_of own_form)
set_option linter.unusedSimpArgs false
set_option linter.unusedVariables false

set_option maxHeartbeats 8000000 in
set_option maxRecDepth 100000 in
theorem specKeep_val (ps : List Pw) (q : Pw) (base : Nat) (v : Value) (w : World) (hn : ps.length ≤ 1000000) (hl : ∀ p ∈ ps, p.o.p.length ≤ 1000) (hq : q.o.p.length ≤ 1000) (hb : base ≤ w.heap.size) (O : Lw w base v ps) (Q : RideAt w base q.a q.cap (ridesOf q.o.p)) :
    Calls Tryd.prog 66 #[v, q.v] w fun e w' => ∃ v', e = .returned v' ∧ Lw w' base v' (keepP ps q) ∧ w.grownBy w' v.ownBlock ∧ (v'.ownBlock = v.ownBlock ∨ ∃ g, v'.ownBlock = some g ∧ w.heap.size ≤ g) := by
  obtain ⟨a, c, rfl, ha⟩ := own_form O.own
  obtain ⟨qa, qc, qp, qs, qz⟩ := q
  have n0 := heap_new w (.cells #[.slice qa qp.length qc, .int .i64 qs, .int .i64 qz] 99)
  have N := new_below w (.cells #[.slice qa qp.length qc, .int .i64 qs, .int .i64 qz] 99)
  have hlt0 := lt_of n0
  obtain ⟨KP, hKP⟩ : ∃ KP, keepP ps ⟨qa, qc, qp, qs, qz⟩ = KP := ⟨_, rfl⟩
  rw [hKP]
  have HKP : Hid (keepP ps ⟨qa, qc, qp, qs, qz⟩ = KP) := hKP
  clear hKP
  go_enter Tryd.func66, Tryd.ntmps66
  go_wp2
  generalize w.alloc (.cells #[.slice qa qp.length qc, .int .i64 qs, .int .i64 qz] 99) = W at *
  go_loopw [5] (fun i wr => ∃ k : Nat, k ≤ ps.length ∧ i = .int .i64 k ∧ Below W.heap.size W wr ∧ Hid (∀ i (hi : i < ps.length), i < k → ¬ (ps[i].o.s = qs ∧ ps[i].o.z = qz))) (fun i _ => ps.length - (intOf i).toNat)
  case atStart => exact ⟨0, by omega, rfl, Below.refl _ _, fun i hi h => by omega⟩
  case round =>
    obtain ⟨k, hk, rfl, L, H⟩ := hrel
    have L1 := N.trans (L.mono N.size)
    have OR := O.on L1
    have QR := Q.on L1
    have m0 := kept L hlt0 n0
    have c0 : wr.cell? ⟨w.heap.size, 0, none⟩ = some (.slice qa qp.length qc) := cell_at m0 0
    have c1 : wr.cell? ⟨w.heap.size, 1, none⟩ = some (.int .i64 qs) := cell_at m0 1
    have c2 : wr.cell? ⟨w.heap.size, 2, none⟩ = some (.int .i64 qz) := cell_at m0 2
    by_cases hkn : k < ps.length
    · obtain ⟨g, c', hv, hg, hbg, ⟨d0, f0⟩, ⟨d1, f1⟩, ⟨d2, f2⟩⟩ := OR.at k hkn
      simp only [Value.slice.injEq] at hv
      obtain ⟨rfl, -, rfl⟩ := hv
      have ht : decide ((k : Int) < (ps.length : Int)) = true := decide_eq_true (by omega)
      by_cases es : ps[k].o.s = qs
      · by_cases ez : ps[k].o.z = qz
        · have HH := keepP_hit (w := ⟨qa, qc, qp, qs, qz⟩) hkn H.out ⟨es, ez⟩
          rw [es] at d1
          rw [ez] at d2
          have hkl := hl ps[k] (List.getElem_mem hkn)
          have hrk := OR.rds ps[k] (List.getElem_mem hkn)
          have HLS : Hid (∀ W, Below wr.heap.size wr W → Calls Tryd.prog 76 #[.slice qa qp.length qc, .slice ps[k].a ps[k].o.p.length ps[k].cap] W fun e w' => e = .returned (.bool (less (ridesOf qp) (ridesOf ps[k].o.p))) ∧ Below W.heap.size W w') := fun W K => by
            have := specLess_val qa ps[k].a (ridesOf qp) (ridesOf ps[k].o.p) qc ps[k].cap W (by rw [ridesOf_length]; exact hq) (by rw [ridesOf_length]; exact hkl) (QR.on K).rides (hrk.on K).rides
            rwa [ridesOf_length, ridesOf_length] at this
          change wr.cell? ⟨g, k * 3, none⟩ = some (.slice ps[k].a ps[k].o.p.length ps[k].cap) at d0
          clear hkl hrk
          generalize ps[k].a = pa at *
          generalize ps[k].o.p.length = pl at *
          generalize ps[k].cap = pc at *
          generalize hLB : less (ridesOf qp) (ridesOf ps[k].o.p) = B at *
          clear hLB
          have HQ : Hid (keepP ps ⟨qa, qc, qp, qs, qz⟩ = if B = true then ps.set k ⟨qa, qc, qp, qs, qz⟩ else ps) := HH
          clear HH
          go_wp2
          go_quiet (fail)
          go_wp2
          go_region_with (go_at_call 76; (with_reducible refine (HLS.out _ ?_).mono ?_); (first | exact Pk.Drawn.below _ ⟨_, rfl⟩ | exact (Pk.Drawn.below _ ⟨_, rfl⟩).drew); rintro e w3 ⟨rfl, L3⟩)
          all_goals
            have L4 : Below wr.heap.size wr w3 := ((Pk.Drawn.below _ ⟨_, rfl⟩ : Below wr.heap.size wr (wr.drewN (nq + 1)))).trans L3
            have L5 := L1.trans (L4.mono L1.size)
            have O3 := OR.on L4
            have Q3 := QR.on L4
            have m3 := kept L4 (lt_of m0) m0
            have e0 : w3.cell? ⟨w.heap.size, 0, none⟩ = some (.slice qa qp.length qc) := cell_at m3 0
            have e1 : w3.cell? ⟨w.heap.size, 1, none⟩ = some (.int .i64 qs) := cell_at m3 1
            have e2 : w3.cell? ⟨w.heap.size, 2, none⟩ = some (.int .i64 qz) := cell_at m3 2
            obtain ⟨g', c', hv, -, -, ⟨x0, y0⟩, ⟨x1, y1⟩, ⟨x2, y2⟩⟩ := O3.at k hkn
            simp only [Value.slice.injEq, Option.some.injEq, Addr.mk.injEq, and_true] at hv
            obtain ⟨rfl, -, rfl⟩ := hv
            cases B
            · have HK : Hid (KP = ps) := by show _ = _; rw [← HKP.out, HQ.out]; rfl
              clear HLS d0 d1 d2 c0 c1 c2 f0 f1 f2
              go_wp2
              go_ret
              exact ⟨_, rfl, by rw [HK.out]; exact O3, grown_below L5 _, Or.inl rfl⟩
            · have HK : Hid (KP = ps.set k ⟨qa, qc, qp, qs, qz⟩) := by show _ = _; rw [← HKP.out, HQ.out]; rfl
              clear HLS d0 d1 d2 c0 c1 c2 f0 f1 f2
              have G1 := grown_set (w := w3) (g := g) (i := k * 3) (.slice qa qp.length qc)
              have G2 := grown_set (w := w3.setCell ⟨g, k * 3, none⟩ (.slice qa qp.length qc)) (g := g) (i := k * 3 + 1) (.int .i64 qs)
              have G3 := grown_set (w := (w3.setCell ⟨g, k * 3, none⟩ (.slice qa qp.length qc)).setCell ⟨g, k * 3 + 1, none⟩ (.int .i64 qs)) (g := g) (i := k * 3 + 2) (.int .i64 qz)
              have GA := grown_trans (grown_trans G1 G2 (Or.inl rfl)) G3 (Or.inl rfl)
              have OA := own_setn (i := k * 3 + 2) (own_setn (i := k * 3 + 1) (own_setn (i := k * 3) O3.own (.slice qa qp.length qc)) (.int .i64 qs)) (.int .i64 qz)
              have e9 := wc_set ps k ⟨qa, qc, qp, qs, qz⟩ hkn
              rw [← e9] at OA
              have LA : Lw (((w3.setCell ⟨g, k * 3, none⟩ (.slice qa qp.length qc)).setCell ⟨g, k * 3 + 1, none⟩ (.int .i64 qs)).setCell ⟨g, k * 3 + 2, none⟩ (.int .i64 qz)) base (.slice (some ⟨g, 0, none⟩) ps.length c) (ps.set k ⟨qa, qc, qp, qs, qz⟩) := by
                refine ⟨by rw [List.length_set]; exact OA, fun p hp => ?_⟩
                rcases List.mem_or_eq_of_mem_set hp with hp | rfl
                · exact (O3.rds p hp).grown (v := .slice (some ⟨g, 0, none⟩) ps.length c) GA O3.own
                · exact RideAt.grown (v := .slice (some ⟨g, 0, none⟩) ps.length c) Q3 GA O3.own
              have HLA : Hid (Lw (((w3.setCell ⟨g, k * 3, none⟩ (.slice qa qp.length qc)).setCell ⟨g, k * 3 + 1, none⟩ (.int .i64 qs)).setCell ⟨g, k * 3 + 2, none⟩ (.int .i64 qz)) base (.slice (some ⟨g, 0, none⟩) ps.length c) (ps.set k ⟨qa, qc, qp, qs, qz⟩)) := LA
              have HGA : Hid (World.grownBy w (((w3.setCell ⟨g, k * 3, none⟩ (.slice qa qp.length qc)).setCell ⟨g, k * 3 + 1, none⟩ (.int .i64 qs)).setCell ⟨g, k * 3 + 2, none⟩ (.int .i64 qz)) (some g)) := grown_trans (grown_below L5 (some g)) GA (Or.inl rfl)
              clear GA OA LA G1 G2 G3 e9
              go_wp2
              go_ret
              exact ⟨_, rfl, by rw [HK.out]; exact HLA.out, HGA.out, Or.inl rfl⟩
        · have hne : (ps[k].o.z == qz) = false := beq_eq_false_iff_ne.2 ez
          have HN : Hid (∀ i (hi : i < ps.length), i < k + 1 → ¬ (ps[i].o.s = qs ∧ ps[i].o.z = qz)) := fun i hi hik => by
            by_cases h9 : i < k
            · exact H.out i hi h9
            · obtain rfl : i = k := by omega
              exact fun h => ez h.2
          rw [es] at d1
          generalize ps[k].o.z = z9 at *
          go_wp2
          go_quiet (fail)
          go_wp2
          go_roundw
          case rel => exact ⟨k + 1, by omega, by go_num, L.trans (Pk.Drawn.below _ ⟨_, rfl⟩), HN⟩
          case measure => simp [intOf]; omega
      · have hne : (ps[k].o.s == qs) = false := beq_eq_false_iff_ne.2 es
        have HN : Hid (∀ i (hi : i < ps.length), i < k + 1 → ¬ (ps[i].o.s = qs ∧ ps[i].o.z = qz)) := fun i hi hik => by
          by_cases h9 : i < k
          · exact H.out i hi h9
          · obtain rfl : i = k := by omega
            exact fun h => es h.1
        generalize ps[k].o.s = s9 at *
        go_wp2
        go_quiet (fail)
        go_wp2
        go_roundw
        case rel => exact ⟨k + 1, by omega, by go_num, L.trans (Pk.Drawn.below _ ⟨_, rfl⟩), HN⟩
        case measure => simp [intOf]; omega
    · obtain rfl : k = ps.length := by omega
      have HH := keepP_new (w := ⟨qa, qc, qp, qs, qz⟩) (fun i hi => H.out i hi hi)
      have ht : decide ((ps.length : Int) < (ps.length : Int)) = false := decide_eq_false (by omega)
      have HK : Hid (KP = ps ++ [⟨qa, qc, qp, qs, qz⟩]) := by show _ = _; rw [← HKP.out]; exact HH
      obtain ⟨i0, hi0, hz0, hz1, hz2⟩ := info_of info_way
      have x0 := heap_new wr (.cells #[.slice qa qp.length qc, .int .i64 qs, .int .i64 qz] 99)
      have NX := new_below wr (.cells #[.slice qa qp.length qc, .int .i64 qs, .int .i64 qz] 99)
      have OX := OR.on NX
      have QX := QR.on NX
      have LX := L1.trans (NX.mono L1.size)
      have hbs : base ≤ (wr.alloc (.cells #[.slice qa qp.length qc, .int .i64 qs, .int .i64 qz] 99)).heap.size := Nat.le_trans hb LX.size
      have HXN : ∀ j u, [Value.slice qa qp.length qc, .int .i64 qs, .int .i64 qz][j]? = some u → (wr.alloc (.cells #[.slice qa qp.length qc, .int .i64 qs, .int .i64 qz] 99)).cell? (Addr.add ⟨wr.heap.size, 0, none⟩ j) = some u := fun j u hu => by
        rw [add_plain, Nat.zero_add, cell_at x0 j]
        simpa using hu
      clear HH H
      go_wp2_with (at_builtin; refine wpList_append_own_at _ rfl _ _ 100 rfl base 99 i0 (.agg #[.slice none 0 0, .int .i64 0, .int .i64 0]) 3 40 Tryd.underlying100 hi0 hz0 hz1 hz2 rfl (by decide) _ _ _ rfl OX.own ⟨wr.heap.size, 0, none⟩ 1 1 [.slice qa qp.length qc, .int .i64 qs, .int .i64 qz] rfl ?c0 ?c1 ?c2 ?c3 ?c4 ?c5 ?_)
      case c0 => rfl
      case c1 => exact HXN
      case c2 => intro u hu; simp at hu; rcases hu with rfl | rfl | rfl <;> rfl
      case c3 => unfold maxLen; omega
      case c4 => omega
      case c5 => exact hbs
      intro v' y O6 G6 _ h6
      have HLA : Hid (Lw y base v' (ps ++ [⟨qa, qc, qp, qs, qz⟩])) := by
        refine ⟨by rw [List.length_append, wc_append]; exact O6, fun p hp => ?_⟩
        rcases List.mem_append.1 hp with hp | hp
        · exact (OX.rds p hp).grown G6 OX.own
        · obtain rfl := List.mem_singleton.1 hp
          exact RideAt.grown QX G6 OX.own
      have HGA := grown_trans (grown_below LX (Value.slice a ps.length c).ownBlock) G6 (Or.inl rfl)
      have h7 : v'.ownBlock = (Value.slice a ps.length c).ownBlock ∨ ∃ g, v'.ownBlock = some g ∧ w.heap.size ≤ g := by
        rcases h6 with h6 | h6
        · exact Or.inl h6
        · exact Or.inr ⟨_, h6, by have := L1.size; omega⟩
      clear O6 G6 h6
      go_wp2
      go_ret
      exact ⟨_, rfl, by rw [HK.out]; exact HLA.out, HGA, h7⟩

end Rd
end Go.Proofs.YtaplbjoghkipdaaDoor
