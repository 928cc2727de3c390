/- Until when one has to be ready, by how many rides are left, of the program. -/
import Derived.Test.YtfoccmhmgdengaaEaAhead
import Derived.Test.YtfoccmhmgdengaaEaApp
import Derived.Deep.LoopGhost
import Derived.Deep.RegionHeld3
import Derived.Deep.Cut
namespace Go.Proofs.Ytfoccmhmgdengaa
namespace Rd
open Go.ChangeShapes Go.WideShapes Go.ChangeAt Go.RowKit
open Pk (new_below join_below cell_at heap_new frozen_at lt_of kept heap_old info_of)
open Em (hld kk kk_of kk_lit keyLaw WfI Mi)
set_option linter.unusedSimpArgs false
set_option linter.unusedVariables false

abbrev mV (b : Nat) : Value := .map (some b)

/-- The maps told so far: each tells until when one has to be ready. -/
structure Lts (H : List Hp) (tt z : Int) (SB : Nat) (ms : List Nat) (v : Value) (w : World) : Prop where
  row : w.ownsRow SB 97 1 v ms.length (ms.map mV)
  maps : ∀ k (h : k < ms.length), SB ≤ ms[k] ∧ ∃ n L, Mi w ms[k] n L ∧ Lat H tt z k L

theorem mv_one (ms : List Nat) : ∀ u ∈ ms.map mV, u.oneCell' = true := by
  intro u hu
  obtain ⟨b, -, rfl⟩ := List.mem_map.1 hu
  rfl

theorem info_map : (Try.prog.info? 97).map (fun i => (i.zero, i.size, i.bytes)) = some (some (.map none), 1, 8) := by kernel_rfl

theorem Lts.form {H : List Hp} {tt z : Int} {SB : Nat} {ms : List Nat} {v : Value} {w : World} (h : Lts H tt z SB ms v w) (hm : 0 < ms.length) : ∃ g cap cur, v = .slice (some ⟨g, 0, none⟩) ms.length cap ∧ SB ≤ g ∧ w.heap[g]? = some (.cells cur 97 (0, 0)) ∧ ∀ k (h : k < ms.length), w.cell? ⟨g, k, none⟩ = some (mV ms[k]) := by
  obtain ⟨hl, ⟨hv, h0⟩ | ⟨g, cap, cur, hv, hg, hh, h1, h3, h4, h5⟩⟩ := h.row
  · omega
  · refine ⟨g, cap, cur, hv, hg, hh, fun k hk => ?_⟩
    rw [cell_at hh]
    have h6 : (cur.toList.take (ms.length * 1))[k]? = (ms.map mV)[k]? := by rw [h5]
    rw [List.getElem?_take, if_pos (by omega), Array.getElem?_toList] at h6
    rw [h6]
    simp [hk]

theorem Lts.on {H : List Hp} {tt z : Int} {SB : Nat} {ms : List Nat} {v : Value} {w w1 : World} (h : Lts H tt z SB ms v w) (L : Below w.heap.size w w1) : Lts H tt z SB ms v w1 :=
  ⟨own_kept h.row (below_grown L none) (fun g _ => by simp), fun k hk => by
    obtain ⟨h1, n, A, h2, h3⟩ := h.maps k hk
    exact ⟨h1, n, A, h2.on (L.block _ h2.lt), h3⟩⟩

/-- One map more. -/
theorem Lts.more {H : List Hp} {tt z : Int} {SB b n : Nat} {ms : List Nat} {v v' : Value} {w w1 w2 : World} {A : Int → Option Int} (h : Lts H tt z SB ms v w) (hm : 0 < ms.length) (L : Below w.heap.size w w1) (hb : SB ≤ b) (M : Mi w1 b n A) (hA : Lat H tt z ms.length A)
    (O : w2.ownsRow SB 97 1 v' (ms.length + 1) (ms.map mV ++ [mV b])) (G : w1.grownBy w2 v.ownBlock) : Lts H tt z SB (ms ++ [b]) v' w2 := by
  obtain ⟨g, cap, cur, rfl, -, hh, -⟩ := h.form hm
  have hh1 := kept L (lt_of hh) hh
  have hx : ∀ (c k : Nat) (B : Int → Option Int), Mi w1 c k B → Mi w2 c k B := fun c k B m => m.on (G.block c m.lt (by
    obtain ⟨es, cl, hm⟩ := m.isMap
    simp only [Value.ownBlock, ne_eq, Option.some.injEq]
    intro e
    rw [e, hh1] at hm
    cases hm))
  refine ⟨by simpa using O, fun k hk => ?_⟩
  rw [List.length_append, List.length_singleton] at hk
  by_cases hk2 : k < ms.length
  · rw [List.getElem_append_left hk2]
    obtain ⟨h1, n', A', h2, h3⟩ := h.maps k hk2
    exact ⟨h1, n', A', hx _ _ _ (h2.on (L.block _ h2.lt)), h3⟩
  · obtain rfl : k = ms.length := by omega
    simp only [List.getElem_concat_length]
    exact ⟨hb, n, A, hx _ _ _ M, hA⟩

theorem one_new {w : World} {g b : Nat} {ty : TypeId} {f : Nat × Nat} (h : w.heap[g]? = some (.cells #[mV b] ty f)) : ∀ j u, [mV b][j]? = some u → w.cell? (Addr.add ⟨g, 0, none⟩ j) = some u := by
  intro j u hu
  rw [add_plain, Nat.zero_add, cell_at h j]
  simpa using hu

set_option maxRecDepth 100000 in
set_option maxHeartbeats 8000000 in
theorem latest_val (B0 mb : Nat) (H : List Hp) (es : Array MapEntry) (clock : Nat) (v0 v : Vw) (tt : Int) (w : World) (hH : H.length ≤ 64000) (hB : ∀ h ∈ H, WfI h.r.to ∧ WfI h.r.fr ∧ 0 ≤ h.z ∧ h.z ≤ 200000000 ∧ 0 ≤ h.d) (M : Em.Mp B0 mb (hopsAt H) es clock w) (hv : WfI v.s) (h1 : 1 ≤ v.n) (h6 : v.n ≤ 6) :
    Calls Try.prog 55 #[.agg #[.int .i64 v0.s, .int .i64 v0.y, .int .i64 (v0.n : Int), .int .i64 tt, .map (some mb)], vV v] w fun e w' => ∃ ms u, e = .returned u ∧ ms.length = v.n ∧ Lts H v.s v.y w.heap.size ms u w' ∧ Below w.heap.size w w' := by
  obtain ⟨i0, hi, hz0, hz1, hz2⟩ := info_of info_map
  have hmb := lt_of M.blk
  have hmk : ∀ w : World, (Instr.makeMap 97 none).run Try.prog w = .ok (.map (some w.heap.size)) (w.alloc (.map #[] 0)) := fun w => by simp [Instr.makeMap, go_sem]
  have e1 : (w.alloc (.cells #[.int .i64 v0.s, .int .i64 v0.y, .int .i64 (v0.n : Int), .int .i64 tt, .map (some mb)] 65)).heap.size = w.heap.size + 1 := Array.size_push ..
  have e2 : ((w.alloc (.cells #[.int .i64 v0.s, .int .i64 v0.y, .int .i64 (v0.n : Int), .int .i64 tt, .map (some mb)] 65)).alloc (.cells #[.int .i64 v.s, .int .i64 v.y, .int .i64 (v.n : Int)] 61)).heap.size = w.heap.size + 1 + 1 := (Array.size_push ..).trans (by rw [e1])
  have e3 : (((w.alloc (.cells #[.int .i64 v0.s, .int .i64 v0.y, .int .i64 (v0.n : Int), .int .i64 tt, .map (some mb)] 65)).alloc (.cells #[.int .i64 v.s, .int .i64 v.y, .int .i64 (v.n : Int)] 61)).alloc (.map #[] 0)).heap.size = w.heap.size + 1 + 1 + 1 := (Array.size_push ..).trans (by rw [e2])
  have N3 := join_below (join_below (new_below w (.cells #[.int .i64 v0.s, .int .i64 v0.y, .int .i64 (v0.n : Int), .int .i64 tt, .map (some mb)] 65)) (new_below _ (.cells #[.int .i64 v.s, .int .i64 v.y, .int .i64 (v.n : Int)] 61))) (new_below _ (.map #[] 0))
  have so3 := heap_old (heap_old (heap_new w (.cells #[.int .i64 v0.s, .int .i64 v0.y, .int .i64 (v0.n : Int), .int .i64 tt, .map (some mb)] 65)) (.cells #[.int .i64 v.s, .int .i64 v.y, .int .i64 (v.n : Int)] 61)) (.map #[] 0)
  have eo3 := heap_old (heap_new (w.alloc (.cells #[.int .i64 v0.s, .int .i64 v0.y, .int .i64 (v0.n : Int), .int .i64 tt, .map (some mb)] 65)) (.cells #[.int .i64 v.s, .int .i64 v.y, .int .i64 (v.n : Int)] 61)) (.map #[] 0)
  have M3 := Em.mi_made ((w.alloc (.cells #[.int .i64 v0.s, .int .i64 v0.y, .int .i64 (v0.n : Int), .int .i64 tt, .map (some mb)] 65)).alloc (.cells #[.int .i64 v.s, .int .i64 v.y, .int .i64 (v.n : Int)] 61))
  rw [e1] at eo3
  rw [e2] at M3
  obtain ⟨w4, hup, M4, G4⟩ := M3.put (by unfold maxLen; omega) hv v.y
  have HM : Hid (Em.Mp B0 mb (hopsAt H) es clock w) := M
  have HBB : Hid (∀ h ∈ H, WfI h.r.to ∧ WfI h.r.fr ∧ 0 ≤ h.z ∧ h.z ≤ 200000000 ∧ 0 ≤ h.d) := hB
  have so4 : w4.heap[w.heap.size]? = some (.cells #[.int .i64 v0.s, .int .i64 v0.y, .int .i64 (v0.n : Int), .int .i64 tt, .map (some mb)] 65) := (G4.block _ (by omega) (by simp; omega)).trans so3
  have eo4 : w4.heap[w.heap.size + 1]? = some (.cells #[.int .i64 v.s, .int .i64 v.y, .int .i64 (v.n : Int)] 61) := (G4.block _ (by omega) (by simp)).trans eo3
  have L4 : Below w.heap.size w w4 := N3.trans ⟨G4.os, G4.tape, G4.output, G4.size, fun q hq => G4.block q (by omega) (by simp; omega)⟩
  have hs4 : w.heap.size + 1 + 1 + 1 ≤ w4.heap.size := by rw [← e3]; exact G4.size
  have x5 := heap_new w4 (.cells #[mV (w.heap.size + 1 + 1)] 97)
  have N5 := new_below w4 (.cells #[mV (w.heap.size + 1 + 1)] 97)
  have HL5 : Hid (Lts H v.s v.y w.heap.size [w.heap.size + 1 + 1] (.slice (some ⟨w4.heap.size, 0, none⟩) 1 1) (w4.alloc (.cells #[mV (w.heap.size + 1 + 1)] 97))) := by
    refine ⟨⟨rfl, Or.inr ⟨_, 1, _, rfl, by omega, x5, Nat.le_refl _, by unfold maxLen; omega, rfl, rfl⟩⟩, fun k hk => ?_⟩
    obtain rfl : k = 0 := by simpa using hk
    exact ⟨by show w.heap.size ≤ w.heap.size + 1 + 1; omega, _, _, M4.on (N5.block _ M4.lt), lat_zero H v.s v.y fun st => rfl⟩
  have so5 := heap_old so4 (.cells #[mV (w.heap.size + 1 + 1)] 97)
  have eo5 := heap_old eo4 (.cells #[mV (w.heap.size + 1 + 1)] 97)
  have L5 := L4.trans (N5.mono (by omega))
  have a0 : (((w.alloc (.cells #[.int .i64 v0.s, .int .i64 v0.y, .int .i64 (v0.n : Int), .int .i64 tt, .map (some mb)] 65)).alloc (.cells #[.int .i64 v.s, .int .i64 v.y, .int .i64 (v.n : Int)] 61)).alloc (.map #[] 0)).cell? ⟨w.heap.size + 1, 0, none⟩ = some (.int .i64 v.s) := cell_at eo3 0
  have a1 : (((w.alloc (.cells #[.int .i64 v0.s, .int .i64 v0.y, .int .i64 (v0.n : Int), .int .i64 tt, .map (some mb)] 65)).alloc (.cells #[.int .i64 v.s, .int .i64 v.y, .int .i64 (v.n : Int)] 61)).alloc (.map #[] 0)).cell? ⟨w.heap.size + 1, 1, none⟩ = some (.int .i64 v.y) := cell_at eo3 1
  clear M4 G4 M3 so3 eo3 so4 eo4 L4 x5 N5 M hB N3 e1 e2 e3 hs4
  go_enter Try.func55, Try.ntmps55
  go_wp2
  clear hup a0 a1
  generalize w4.alloc (.cells #[mV (w.heap.size + 1 + 1)] 97) = W5 at *
  generalize w4.heap.size = LB at *
  generalize hSB : w.heap.size = SB at *
  go_loopg [5] 6 (fun gk u wr => ∃ ms : List Nat, Hid (Lts H v.s v.y SB ms u wr) ∧ 0 < ms.length ∧ ms.length ≤ v.n ∧ Below SB w wr ∧ wr.heap[SB]? = some (.cells #[.int .i64 v0.s, .int .i64 v0.y, .int .i64 (v0.n : Int), .int .i64 tt, .map (some mb)] 65) ∧ wr.heap[SB + 1]? = some (.cells #[.int .i64 v.s, .int .i64 v.y, .int .i64 (v.n : Int)] 61) ∧ gk + ms.length = 7)
  case atStart => exact ⟨_, HL5, Nat.zero_lt_one, h1, L5, so5, eo5, rfl⟩
  case round =>
    clear HL5 L5 so5 eo5
    obtain ⟨ms, HLs, hm0, hmn, Lr, sor, eor, hgk⟩ := hrel
    obtain ⟨g, cap, cur, rfl, hgS, hh, hcl⟩ := HLs.out.form hm0
    have a2 : wr.cell? ⟨SB + 1, 2, none⟩ = some (.int .i64 (v.n : Int)) := cell_at eor 2
    by_cases hlt : ms.length < v.n
    · obtain ⟨m, hm⟩ : ∃ m, ms.length = m + 1 := ⟨ms.length - 1, by omega⟩
      have hmm : m < ms.length := by omega
      have c9 := hcl m hmm
      obtain ⟨hu1, n9, A9, hu2, hu3⟩ := HLs.out.maps m hmm
      obtain ⟨ub, hub⟩ : ∃ ub, ms[m] = ub := ⟨_, rfl⟩
      rw [hub] at c9 hu1 hu2
      have hgl := lt_of hh
      clear hcl hub hh
      obtain ⟨N, hN⟩ : ∃ N, ms.length = N := ⟨_, rfl⟩
      have HN : Hid (ms.length = N) := hN
      rw [hN]
      rw [hN] at hlt hm hmm hmn hgk hm0
      have HOW : Hid (wr.ownsRow SB 97 1 (.slice (some ⟨g, 0, none⟩) N cap) N (ms.map mV)) := by
        have := HLs.out.row
        rw [hN] at this
        exact this
      clear hN
      obtain ⟨y0, y1⟩ := Rd.w64 (show (N : Int) - 1 = (m : Int) by omega) (by omega) (by omega)
      have hmN : (m : Int) < (N : Int) := by omega
      have HMm : Hid (N = m + 1) := hm
      have hmL : m < 64 := by omega
      clear hm
      have hNv : (N : Int) < (v.n : Int) := by omega
      have HAV : Hid (∀ W, Below wr.heap.size wr W → Calls Try.prog 71 #[.agg #[.int .i64 v0.s, .int .i64 v0.y, .int .i64 (v0.n : Int), .int .i64 tt, .map (some mb)], .map (some ub)] W fun e w' => ∃ b n A, e = .returned (.map (some b)) ∧ Mi w' b n A ∧ W.heap.size ≤ b ∧ Ahd H A9 (fun _ => True) A ∧ Below W.heap.size W w') := fun W L => oneAhead_val B0 mb ub n9 H es clock v0 tt A9 W hH HBB.out (HM.out.on (by rw [hSB]; exact Lr.trans (L.mono (by have := lt_of sor; omega)))) (hu2.on (L.block _ hu2.lt))
      have HLA : Hid (Lat H v.s v.y m A9) := hu3
      have HKS : Hid (∀ W, Below wr.heap.size wr W → W.heap[SB]? = some (.cells #[.int .i64 v0.s, .int .i64 v0.y, .int .i64 (v0.n : Int), .int .i64 tt, .map (some mb)] 65)) := fun W L => kept L (lt_of sor) sor
      have HSC : Hid (∀ W : World, W.heap[SB]? = some (.cells #[.int .i64 v0.s, .int .i64 v0.y, .int .i64 (v0.n : Int), .int .i64 tt, .map (some mb)] 65) → W.cell? ⟨SB, 0, none⟩ = some (.int .i64 v0.s) ∧ W.cell? ⟨SB, 1, none⟩ = some (.int .i64 v0.y) ∧ W.cell? ⟨SB, 2, none⟩ = some (.int .i64 (v0.n : Int)) ∧ W.cell? ⟨SB, 3, none⟩ = some (.int .i64 tt) ∧ W.cell? ⟨SB, 4, none⟩ = some (.map (some mb))) := fun W h => ⟨cell_at h 0, cell_at h 1, cell_at h 2, cell_at h 3, cell_at h 4⟩
      have hSz : SB < wr.heap.size := lt_of sor
      have hgSB : g ≠ SB := by
        obtain ⟨_, _, cur', e, _, h2, _⟩ := HLs.out.form (by rw [HN.out]; exact hm0)
        simp only [Value.slice.injEq, Option.some.injEq, Addr.mk.injEq] at e
        intro e2
        rw [← e.1.1, e2] at h2
        rw [sor] at h2
        simp only [Option.some.injEq, Obj.cells.injEq] at h2
        exact absurd h2.2.1 (by decide)
      have hgEB : g ≠ SB + 1 := by
        obtain ⟨_, _, cur', e, _, h2, _⟩ := HLs.out.form (by rw [HN.out]; exact hm0)
        simp only [Value.slice.injEq, Option.some.injEq, Addr.mk.injEq] at e
        intro e2
        rw [← e.1.1, e2] at h2
        rw [eor] at h2
        simp only [Option.some.injEq, Obj.cells.injEq] at h2
        exact absurd h2.2.1 (by decide)
      have K0 : Below wr.heap.size wr wr.drew := (Below.refl _ _).drew
      have HEO : Hid (wr.heap[SB + 1]? = some (.cells #[.int .i64 v.s, .int .i64 v.y, .int .i64 (v.n : Int)] 61)) := eor
      have HLR : Hid (Below SB w wr) := Lr
      clear hu1 hu2 hu3 sor eor Lr hmm
      go_wp2_with fail
      refine wp_region_held_drew (S := (fun w' => w'.heap[SB]? = some (.cells #[.int .i64 v0.s, .int .i64 v0.y, .int .i64 (v0.n : Int), .int .i64 tt, .map (some mb)] 65))) (by kernel_rfl) ?_ (fun hHeld => ?_)
      · exact HKS.out _ K0
      refine wpAnyH_take (i := 0) (v := .slice (some ⟨g, 0, none⟩) N cap) rfl (by kernel_rfl) (by kernel_rfl) (by kernel_rfl) (fun _ _ _ h => h) (Or.inl ⟨by kernel_rfl, fun w hSw => by first | (go_simp; done) | (dsimp only at hSw; obtain ⟨hS0⟩ := hSw; go_simp; done) | rfl⟩) (by assumption) ?_
      simp only [Act.put, List.getElem_toArray, List.getElem_cons_succ, List.getElem_cons_zero, List.setIfInBounds_toArray, List.set_cons_succ, List.set_cons_zero]
      refine wpAnyH_take (i := 1) (v := .agg #[.int .i64 v0.s, .int .i64 v0.y, .int .i64 (v0.n : Int), .int .i64 tt, .map (some mb)]) rfl (by kernel_rfl) (by kernel_rfl) (by kernel_rfl) (fun _ _ _ h => h) (Or.inl ⟨by kernel_rfl, fun w hSw => by first | (obtain ⟨z0, z1, z2, z3, z4⟩ := HSC.out _ hSw; go_simp; done) | (go_simp; done) | (dsimp only at hSw; obtain ⟨hS0⟩ := hSw; go_simp; done) | rfl⟩) (by assumption) ?_
      simp only [Act.put, List.getElem_toArray, List.getElem_cons_succ, List.getElem_cons_zero, List.setIfInBounds_toArray, List.set_cons_succ, List.set_cons_zero]
      refine wpAnyH_take (i := 2) (v := .slice (some ⟨g, 0, none⟩) N cap) rfl (by kernel_rfl) (by kernel_rfl) (by kernel_rfl) (fun _ _ _ h => h) (Or.inl ⟨by kernel_rfl, fun w hSw => by first | (go_simp; done) | (dsimp only at hSw; obtain ⟨hS0⟩ := hSw; go_simp; done) | rfl⟩) (by assumption) ?_
      simp only [Act.put, List.getElem_toArray, List.getElem_cons_succ, List.getElem_cons_zero, List.setIfInBounds_toArray, List.set_cons_succ, List.set_cons_zero]
      refine wpAnyH_take (i := 3) (v := .slice (some ⟨g, 0, none⟩) N cap) rfl (by kernel_rfl) (by kernel_rfl) (by kernel_rfl) (fun _ _ _ h => h) (Or.inl ⟨by kernel_rfl, fun w hSw => by first | (go_simp; done) | (dsimp only at hSw; obtain ⟨hS0⟩ := hSw; go_simp; done) | rfl⟩) (by assumption) ?_
      simp only [Act.put, List.getElem_toArray, List.getElem_cons_succ, List.getElem_cons_zero, List.setIfInBounds_toArray, List.set_cons_succ, List.set_cons_zero]
      refine wpAnyH_take (i := 4) (v := .int .i64 (N : Int)) rfl (by kernel_rfl) (by kernel_rfl) (by kernel_rfl) (fun _ _ _ h => h) (Or.inl ⟨by kernel_rfl, fun w hSw => by first | (go_simp; done) | (dsimp only at hSw; obtain ⟨hS0⟩ := hSw; go_simp; done) | rfl⟩) (by assumption) ?_
      simp only [Act.put, List.getElem_toArray, List.getElem_cons_succ, List.getElem_cons_zero, List.setIfInBounds_toArray, List.set_cons_succ, List.set_cons_zero]
      refine wpAnyH_take (i := 5) (v := .int .i64 (m : Int)) rfl (by kernel_rfl) (by kernel_rfl) (by kernel_rfl) (fun _ _ _ h => h) (Or.inl ⟨by kernel_rfl, fun w hSw => by first | (go_simp; done) | (dsimp only at hSw; obtain ⟨hS0⟩ := hSw; go_simp; done) | rfl⟩) (by assumption) ?_
      simp only [Act.put, List.getElem_toArray, List.getElem_cons_succ, List.getElem_cons_zero, List.setIfInBounds_toArray, List.set_cons_succ, List.set_cons_zero]
      refine wpAnyH_take (i := 6) (v := .pointer (some ⟨g, m, none⟩)) rfl (by kernel_rfl) (by kernel_rfl) (by kernel_rfl) (fun _ _ _ h => h) (Or.inl ⟨by kernel_rfl, fun w hSw => by first | (go_simp; done) | (dsimp only at hSw; obtain ⟨hS0⟩ := hSw; go_simp; done) | rfl⟩) (by assumption) ?_
      simp only [Act.put, List.getElem_toArray, List.getElem_cons_succ, List.getElem_cons_zero, List.setIfInBounds_toArray, List.set_cons_succ, List.set_cons_zero]
      refine wpAnyH_ready (rs := [7]) (by kernel_rfl) (by simp) ?_
      refine AllReadyH.cons rfl (fun K hK => ?_) AllReadyH.nil
      go_simp
      refine hK.out _ _ ?_ (fun hHeld2 => ?_)
      · first | exact hHeld | exact HKS.out _ K0 | exact HKS.out _ K1 | exact HKS.out _ K2 | exact s9
      clear hK K hHeld
      have hHeld := hHeld2
      clear hHeld2
      refine wpAnyH_ready (rs := [8]) (by kernel_rfl) (by simp) ?_
      refine AllReadyH.cons rfl (fun K hK => ?_) AllReadyH.nil
      go_simp
      go_wp2_with (go_at_call 71; (with_reducible refine (HAV.out _ K0).mono ?_); rintro e w5 ⟨b5, n5, A5, rfl, M5, hb5, HA5, L5⟩; have K1 : Below wr.heap.size wr w5 := K0.trans (L5.mono K0.size); have K2 : Below wr.heap.size wr (w5.alloc (.cells #[mV b5] 97)) := K1.trans ((new_below w5 (.cells #[mV b5] 97)).mono K1.size); have lA := heap_new w5 (.cells #[mV b5] 97); have M6 := M5.on ((new_below w5 (.cells #[mV b5] 97)).block _ M5.lt); have hb6 : wr.heap.size ≤ b5 := hb5)
      refine hK.out _ _ ?_ (fun hHeld2 => ?_)
      · first | exact hHeld | exact HKS.out _ K0 | exact HKS.out _ K1 | exact HKS.out _ K2 | exact s9
      clear hK K hHeld
      have hHeld := hHeld2
      clear hHeld2
      refine wpAnyH_ready (rs := [9]) (by kernel_rfl) (by simp) ?_
      refine AllReadyH.cons rfl (fun K hK => ?_) AllReadyH.nil
      go_simp
      refine hK.out _ _ ?_ (fun hHeld2 => ?_)
      · first | exact hHeld | exact HKS.out _ K0 | exact HKS.out _ K1 | exact HKS.out _ K2 | exact s9
      clear hK K hHeld
      have hHeld := hHeld2
      clear hHeld2
      refine wpAnyH_ready (rs := [10]) (by kernel_rfl) (by simp) ?_
      refine AllReadyH.cons rfl (fun K hK => ?_) AllReadyH.nil
      rw [if_pos (by kernel_rfl)]
      have OA := own_kept HOW.out (below_grown K2 none) (fun g _ => by simp)
      refine wp_append_at _ _ 103 rfl SB 97 i0 (.map none) 1 8 Try.underlying103 hi hz0 hz1 hz2 rfl (by decide) (.slice (some ⟨g, 0, none⟩) N cap) N (ms.map mV) rfl OA ⟨w5.heap.size, 0, none⟩ 1 1 [mV b5] rfl rfl (one_new lA) (mv_one [b5]) (by unfold maxLen; clear y0 y1; omega) (by clear y0 y1; omega) (Nat.le_trans (Nat.le_of_lt hSz) K2.size) ?_
      intro v9 w9 O9 G9 hl9
      have s9 : w9.heap[SB]? = some (.cells #[.int .i64 v0.s, .int .i64 v0.y, .int .i64 (v0.n : Int), .int .i64 tt, .map (some mb)] 65) := (G9.block SB (Nat.lt_of_lt_of_le hSz K2.size) (by simp only [Value.ownBlock, ne_eq, Option.some.injEq]; exact fun e => hgSB e.symm)).trans (HKS.out _ K2)
      have t9 : w9.heap[SB + 1]? = some (.cells #[.int .i64 v.s, .int .i64 v.y, .int .i64 (v.n : Int)] 61) := (G9.block (SB + 1) (Nat.lt_of_lt_of_le (lt_of HEO.out) K2.size) (by simp only [Value.ownBlock, ne_eq, Option.some.injEq]; exact fun e => hgEB e.symm)).trans (kept K2 (lt_of HEO.out) HEO.out)
      have hl9' := hl9
      have HL9 : Hid (Lts H v.s v.y SB (ms ++ [b5]) v9 w9 ∧ Below SB w w9) := by
        refine ⟨?_, ?_⟩
        · have hLm : Lat H v.s v.y ms.length A5 := by
            rw [HN.out, HMm.out]
            exact lat_next HLA.out (fun h hh ht => HA5.all h hh ((inT_iff _ _).2 ht) trivial) (fun st t ht => by
              obtain ⟨h, q1, q2, q3, q4⟩ := HA5.told st t ht
              exact ⟨h, q1, q2, q3, (inT_iff _ _).1 q4⟩)
          have O9' : w9.ownsRow SB 97 1 v9 (ms.length + 1) (ms.map mV ++ [mV b5]) := by rw [HN.out]; exact O9
          exact HLs.out.more (by rw [HN.out]; exact hm0) K2 (by have := hSz; clear y0 y1; omega) M6 hLm O9' (by rw [HN.out]; exact G9)
        · exact HLR.out.trans ((K2.mono (by clear y0 y1; omega)).trans ⟨G9.os, G9.tape, G9.output, G9.size, fun q hq => G9.block q (Nat.lt_of_lt_of_le (Nat.lt_trans hq hSz) K2.size) (by simp only [Value.ownBlock, ne_eq, Option.some.injEq]; clear y0 y1; omega)⟩)
      clear OA O9 G9 hl9 hl9' 
      try simp only [Act.put, List.getElem_toArray, List.getElem_cons_succ, List.getElem_cons_zero, List.setIfInBounds_toArray, List.set_cons_succ, List.set_cons_zero]
      refine hK.out _ _ ?_ (fun hHeld2 => ?_)
      · first | exact hHeld | exact HKS.out _ K0 | exact HKS.out _ K1 | exact HKS.out _ K2 | exact s9
      clear hK K hHeld
      have hHeld := hHeld2
      clear hHeld2
      refine wpAnyH_ready (rs := [11]) (by kernel_rfl) (by simp) ?_
      refine AllReadyH.cons rfl (fun K hK => ?_) AllReadyH.nil
      go_simp
      refine hK.out _ _ ?_ (fun hHeld2 => ?_)
      · first | exact hHeld | exact HKS.out _ K0 | exact HKS.out _ K1 | exact HKS.out _ K2 | exact s9
      clear hK K hHeld
      have hHeld := hHeld2
      clear hHeld2
      refine wpAnyH_done (by kernel_rfl) ?_ _
      clear hHeld HKS HAV HSC HOW K0 K1 K2 lA M5 M6 HA5 L5 hb5 hb6
      clear y0 y1
      go_wp2
      go_roundg (gk - 1)
      case measure => omega
      case rel => exact ⟨ms ++ [b5], HL9.out.1, by simp, by simp; rw [HN.out]; omega, HL9.out.2, s9, t9, by simp; rw [HN.out]; omega⟩
    · have hle : ms.length = v.n := by omega
      have HE : Hid (ms.length = v.n) := hle
      have hd : ¬ (ms.length : Int) < (v.n : Int) := by omega
      clear hle hlt hcl
      go_wp2
      go_ret
      exact ⟨ms, _, rfl, HE.out, HLs.out, Lr⟩

end Rd
end Go.Proofs.Ytfoccmhmgdengaa
