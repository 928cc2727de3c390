/- The rides of the best journey, one by one, of the program. -/
import Derived.Test.YtfoccmhmgdengaaEaFirst
import Derived.Test.YtfoccmhmgdengaaEaLatest
namespace Go.Proofs.Ytfoccmhmgdengaa
namespace Rd
open Go.ChangeShapes Go.WideShapes Go.ChangeAt Go.RowKit
open Pk (new_below join_below cell_at heap_new frozen_at lt_of kept heap_old info_of)
open Em (hld kk kk_of kk_lit keyLaw WfI Mi)
set_option linter.unusedSimpArgs false
set_option linter.unusedVariables false

/-- What stands while the rides are taken one by one. -/
structure RdI (H : List Hp) (v0 v : Vw) (tt : Int) (w4 : World) (WB k : Nat) (p : List Hp) (c : Vw) (rv : Value) (wr : World) : Prop where
  len : k + p.length = v.n
  cn : c.n = p.length
  wf : WfI c.s
  tim : Tim H tt v.y k c.s c.y
  go : ∀ q, q.length = k → Grd H tt v.y c.s c.y q → Grd H tt v.y v0.s v0.y (p ++ q)
  low : Below w4.heap.size w4 wr
  wb : wr.heap[WB]? = some (wyO c)
  row : wr.ownsRow w4.heap.size 37 4 rv p.length (rcells (ridesOf p))
  off : rv.ownBlock ≠ some WB

theorem rides_len (p : List Hp) : (ridesOf p).length = p.length := by simp [ridesOf]

theorem grow3 (w : World) (b : Nat) (x y z : Value) : w.grownBy (((w.setCell ⟨b, 0, none⟩ x).setCell ⟨b, 1, none⟩ y).setCell ⟨b, 2, none⟩ z) (some b) := by
  have L := (((Below.refl 0 w).setCell (p := ⟨b, 0, none⟩) (Nat.zero_le _) x).setCell (p := ⟨b, 1, none⟩) (Nat.zero_le _) y).setCell (p := ⟨b, 2, none⟩) (Nat.zero_le _) z
  refine ⟨L.os, L.tape, L.output, L.size, fun i hi hne => ?_⟩
  have hib : i ≠ b := fun e => hne (by rw [e])
  rw [Below.heap_setCell _ _ _ _ hib, Below.heap_setCell _ _ _ _ hib, Below.heap_setCell _ _ _ _ hib]

theorem first_is {H : List Hp} {L : Int → Option Int} {c : Vw} {h : Hp} (hne : ∀ h ∈ H, h ≠ hz0) (e : (goodL H L c).foldl fst1 none = some h) : (goodL H L c).foldl fstZ hz0 = h := by
  have h2 := fstZ_fold (goodL H L c) none (fun f hf => by cases hf) fun x hx => hne x (good_iff.1 hx).1
  rw [e] at h2
  exact h2

theorem asGood_is (v0 v : Vw) (tt : Int) (mb mu : Nat) (w : World) :
    Calls Try.prog 57 #[srV v0 tt mb, vV v, .map (some mu)] w fun e w' => ∃ sb wb ub, e = .returned (.func (.func 73) #[] #[.pointer (some ⟨sb, 0, none⟩), .pointer (some ⟨wb, 0, none⟩), .pointer (some ⟨ub, 0, none⟩)]) ∧ (w'.heap[sb]? = some (srO v0 tt mb) ∧ w'.heap[wb]? = some (wyO v) ∧ w'.heap[ub]? = some (.cells #[.map (some mu)] 97)) ∧ Below w.heap.size w w' := by
  have e1 : (w.alloc (srO v0 tt mb)).heap.size = w.heap.size + 1 := Array.size_push ..
  have e2 : ((w.alloc (srO v0 tt mb)).alloc (wyO v)).heap.size = w.heap.size + 1 + 1 := (Array.size_push ..).trans (by rw [e1])
  have a := heap_old (heap_old (heap_new w (srO v0 tt mb)) (wyO v)) (.cells #[.map (some mu)] 97)
  have b := heap_old (heap_new (w.alloc (srO v0 tt mb)) (wyO v)) (.cells #[.map (some mu)] 97)
  have c := heap_new ((w.alloc (srO v0 tt mb)).alloc (wyO v)) (.cells #[.map (some mu)] 97)
  rw [e1] at b
  rw [e2] at c
  have L : Below w.heap.size w (((w.alloc (srO v0 tt mb)).alloc (wyO v)).alloc (.cells #[.map (some mu)] 97)) := join_below (join_below (new_below w _) (new_below _ _)) (new_below _ _)
  refine (asGood_val v0 v tt mb mu w).mono ?_
  rintro e w' ⟨rfl, rfl⟩
  exact ⟨_, _, _, rfl, ⟨a, b, c⟩, L⟩

set_option maxRecDepth 100000 in
set_option maxHeartbeats 8000000 in
theorem ridesTo_val (B0 mb : Nat) (H : List Hp) (es : Array MapEntry) (clock : Nat) (v0 v : Vw) (tt : Int) (w : World) (hH : H.length ≤ 64000) (hB : ∀ h ∈ H, WfI h.r.to ∧ WfI h.r.fr ∧ 0 ≤ h.z ∧ h.z ≤ 200000000 ∧ 0 ≤ h.d) (hne : ∀ h ∈ H, h ≠ hz0) (M : Em.Mp B0 mb (hopsAt H) es clock w) (hs0 : WfI v0.s) (hv0 : v0.n = 0) (hv : WfI v.s) (h1 : 1 ≤ v.n) (h6 : v.n ≤ 6) (hvs : v.s = tt) (T : Tim H tt v.y v.n v0.s v0.y) :
    Calls Try.prog 32 #[srV v0 tt mb, vV v] w fun e w' => ∃ a c p, e = .returned (.slice a p.length c) ∧ p.length = v.n ∧ Grd H tt v.y v0.s v0.y p ∧ RideAt w' w.heap.size a c (ridesOf p) ∧ Below w.heap.size w w' := by
  obtain ⟨i0, hi, hz0', hz1, hz2⟩ := info_of info_ride'
  have hmb := lt_of M.blk
  have e1 : (w.alloc (srO v0 tt mb)).heap.size = w.heap.size + 1 := Array.size_push ..
  have so2 := heap_old (heap_new w (srO v0 tt mb)) (wyO v)
  have eo2 := heap_new (w.alloc (srO v0 tt mb)) (wyO v)
  rw [e1] at eo2
  have N2 : Below w.heap.size w ((w.alloc (srO v0 tt mb)).alloc (wyO v)) := join_below (new_below w _) (new_below _ _)
  have HV : Hid (∀ W, Below w.heap.size w W → _) := fun W (K : Below w.heap.size w W) => latest_val B0 mb H es clock v0 v tt W hH hB (M.on K) hv h1 h6
  have HM : Hid (Em.Mp B0 mb (hopsAt H) es clock w) := M
  have HBB : Hid (∀ h ∈ H, WfI h.r.to ∧ WfI h.r.fr ∧ 0 ≤ h.z ∧ h.z ≤ 200000000 ∧ 0 ≤ h.d) := hB
  have HNE : Hid (∀ h ∈ H, h ≠ hz0) := hne
  have HTM : Hid (Tim H tt v.y v.n v0.s v0.y) := T
  have HN0 : Hid (v0.n = 0) := hv0
  have HVS : Hid (v.s = tt) := hvs
  have c0 : ((w.alloc (srO v0 tt mb)).alloc (wyO v)).cell? ⟨w.heap.size, 0, none⟩ = some (.int .i64 v0.s) := cell_at so2 0
  have c1 : ((w.alloc (srO v0 tt mb)).alloc (wyO v)).cell? ⟨w.heap.size, 1, none⟩ = some (.int .i64 v0.y) := cell_at so2 1
  have c2 : ((w.alloc (srO v0 tt mb)).alloc (wyO v)).cell? ⟨w.heap.size, 2, none⟩ = some (.int .i64 (v0.n : Int)) := cell_at so2 2
  have c3 : ((w.alloc (srO v0 tt mb)).alloc (wyO v)).cell? ⟨w.heap.size, 3, none⟩ = some (.int .i64 tt) := cell_at so2 3
  have c4 : ((w.alloc (srO v0 tt mb)).alloc (wyO v)).cell? ⟨w.heap.size, 4, none⟩ = some (.map (some mb)) := cell_at so2 4
  have d0 : ((w.alloc (srO v0 tt mb)).alloc (wyO v)).cell? ⟨w.heap.size + 1, 0, none⟩ = some (.int .i64 v.s) := cell_at eo2 0
  have d1 : ((w.alloc (srO v0 tt mb)).alloc (wyO v)).cell? ⟨w.heap.size + 1, 1, none⟩ = some (.int .i64 v.y) := cell_at eo2 1
  have d2 : ((w.alloc (srO v0 tt mb)).alloc (wyO v)).cell? ⟨w.heap.size + 1, 2, none⟩ = some (.int .i64 (v.n : Int)) := cell_at eo2 2
  have HHL : Hid (H.length ≤ 64000) := hH
  clear M hB hne T hH hv hv0 hvs
  go_enter Try.func32, Try.ntmps32
  go_wp2_with fail
  refine (HV.out _ N2).mono ?_
  rintro e w4 ⟨ms, u, rfl, hmn, HL, L4⟩
  have LW4 : Below w.heap.size w w4 := N2.trans (L4.mono N2.size)
  have so4 := kept L4 (lt_of so2) so2
  have eo4 := kept L4 (lt_of eo2) eo2
  have d2 : w4.cell? ⟨w.heap.size + 1, 2, none⟩ = some (.int .i64 (v.n : Int)) := cell_at eo4 2
  obtain ⟨g, cap, cur, rfl, -, hgh, hgc⟩ := HL.form (by omega)
  have HGC : Hid (g < w4.heap.size ∧ ∀ k (h : k < ms.length), w4.cell? ⟨g, k, none⟩ = some (mV ms[k])) := ⟨lt_of hgh, hgc⟩
  clear hgh hgc
  have HLS : Hid (Lts H v.s v.y ((w.alloc (srO v0 tt mb)).alloc (wyO v)).heap.size ms (.slice (some ⟨g, 0, none⟩) ms.length cap) w4) := HL
  have h4s : w.heap.size + 1 < w4.heap.size := lt_of eo4
  have HWS : Hid (w.heap.size ≤ w4.heap.size) := LW4.size
  have HMN : Hid (ms.length = v.n) := hmn
  clear c0 c1 c2 c3 c4 d0 d1 N2 so2 eo2 L4 HL HV
  go_wp2_with (at_make; refine wpList_make_own _ rfl _ _ 27 rfl w4.heap.size 37 i0 (lgV ⟨0, 0, 0, 0⟩) 4 Try.underlying27 hi hz0' hz1 .i64 .i64 _ v.n rfl rfl rfl (by rw [hz2]; omega) (by unfold maxLen; omega) (Nat.le_refl _) ?_; intro w5 O5 G5; have so5 := (G5.block _ (lt_of so4) (by simp)).trans so4; have eo5 := (G5.block _ (lt_of eo4) (by simp)).trans eo4; have a0 : w5.cell? ⟨w.heap.size, 0, none⟩ = some (.int .i64 v0.s) := cell_at so5 0; have a1 : w5.cell? ⟨w.heap.size, 1, none⟩ = some (.int .i64 v0.y) := cell_at so5 1; have a2 : w5.cell? ⟨w.heap.size, 2, none⟩ = some (.int .i64 (v0.n : Int)) := cell_at so5 2; have b2 : (w5.alloc (wyO v0)).cell? ⟨w.heap.size + 1, 2, none⟩ = some (.int .i64 (v.n : Int)) := cell_at (heap_old eo5 _) 2)
  obtain ⟨n5, hn5⟩ : ∃ n5, w5.heap.size = n5 := ⟨_, rfl⟩
  have h5s : w4.heap.size ≤ n5 := by rw [← hn5]; exact G5.size
  have L5 : Below w4.heap.size w4 w5 := ⟨G5.os, G5.tape, G5.output, G5.size, fun q hq => G5.block q hq (by simp)⟩
  have HI0 : Hid (RdI H v0 v tt w4 w5.heap.size v.n [] v0 (.slice (some ⟨w4.heap.size, 0, none⟩) 0 v.n) (w5.alloc (wyO v0))) :=
    ⟨by simp, HN0.out, hs0, HTM.out, fun q _ G => G, L5.trans ((new_below w5 _).mono L5.size), heap_new w5 _, own_kept O5 (below_grown (new_below w5 _) none) (fun q _ => by simp), by
      intro e
      have := O5.lt w4.heap.size rfl
      simp only [Value.ownBlock, Option.some.injEq] at e
      omega⟩
  have HSO : Hid (∀ W, Below w4.heap.size w4 W → W.heap[w.heap.size]? = some (srO v0 tt mb)) := fun W K => kept K (lt_of so4) so4
  have HL4 : Hid (Below w.heap.size w w4) := LW4
  rw [hn5] at HI0 ⊢
  clear O5 G5 so5 eo5 so4 eo4 L5 LW4 a0 a1 a2 b2 hs0 d2 hn5
  generalize w5.alloc (.cells #[.int .i64 v0.s, .int .i64 v0.y, .int .i64 (v0.n : Int)] 61) = W5 at *
  go_loopw [6, 8] (fun rv i wr => ∃ (k : Nat) (p : List Hp) (c : Vw), i = .int .i64 ((k : Int) - 1) ∧ Hid (RdI H v0 v tt w4 n5 k p c rv wr)) (fun _ i _ => (intOf i + 1).toNat)
  case atStart => exact ⟨v.n, [], v0, rfl, HI0⟩
  case round =>
    clear HI0
    obtain ⟨k, p, c, rfl, HI⟩ := hrel
    obtain ⟨ra, rc, hrv, -⟩ := Pk.own_form HI.out.row
    have hkn := HI.out.len
    cases k with
    | zero =>
      have hG : Grd H tt v.y v0.s v0.y p := by
        have := HI.out.go [] rfl ((tim_zero _ _ _ _ _).1 HI.out.tim)
        rwa [List.append_nil] at this
      have hR : RideAt wr w.heap.size ra rc (ridesOf p) := by
        refine RideAt.lower (base := w4.heap.size) ?_ HWS.out
        unfold RideAt
        rw [rides_len, ← hrv]
        exact HI.out.row
      have hlen : p.length = v.n := by omega
      have hLF : Below w.heap.size w wr := HL4.out.trans (HI.out.low.mono HWS.out)
      have HFF : Hid (p.length = v.n ∧ Grd H tt v.y v0.s v0.y p ∧ RideAt wr w.heap.size ra rc (ridesOf p) ∧ Below w.heap.size w wr) := ⟨hlen, hG, hR, hLF⟩
      subst hrv
      clear hG hR hlen hLF hkn
      go_wp2
      go_ret
      exact ⟨_, _, p, rfl, HFF.out⟩
    | succ m =>
      have hi1 : ((m + 1 : Nat) : Int) - 1 = (m : Int) := by omega
      rw [hi1]
      clear hi1
      have hmv : m < ms.length := by omega
      obtain ⟨hu1, nu, L, hMi, hLat⟩ := HLS.out.maps m hmv
      rw [HVS.out] at hLat
      obtain ⟨h, hfo, ⟨hH1, hH2, hH3⟩, hT1, hGo⟩ := grd_step hLat HI.out.tim (goodL H L c) (fun x => good_iff)
      have hfo2 := first_is HNE.out hfo
      have hcm : wr.cell? ⟨g, m, none⟩ = some (mV ms[m]) := (HI.out.low.cell (p := ⟨g, m, none⟩) HGC.out.1).trans (HGC.out.2 m hmv)
      have hMr : ∀ W, Below wr.heap.size wr W → Mi W ms[m] nu L := fun W K => hMi.on ((HI.out.low.trans (K.mono HI.out.low.size)).block _ hMi.lt)
      obtain ⟨mu, hmu⟩ : ∃ mu, ms[m] = mu := ⟨_, rfl⟩
      rw [hmu] at hcm hMr
      have hHb := HBB.out h hH1
      have HFO : Hid (∀ (sb wb ub : Nat) (W : World), Below wr.heap.size wr W → W.heap[sb]? = some (srO v0 tt mb) → W.heap[wb]? = some (wyO c) → W.heap[ub]? = some (.cells #[.map (some mu)] 97) → Calls Try.prog 56 #[.func (.func 73) #[] #[.pointer (some ⟨sb, 0, none⟩), .pointer (some ⟨wb, 0, none⟩), .pointer (some ⟨ub, 0, none⟩)]] W fun e w' => e = .returned (hpV h) ∧ Below W.heap.size W w') := fun sb wb ub W K q1 q2 q3 => by
        have := firstOf_val sb wb ub B0 mb mu nu H es clock v0 c tt L W HHL.out HBB.out HI.out.wf q1 q2 q3 (HM.out.on (HL4.out.trans ((HI.out.low.trans (K.mono HI.out.low.size)).mono HWS.out))) (hMr W K)
        rw [hfo2] at this
        exact this
      have HAS : Hid (∀ W : World, _) := fun W => asGood_is v0 c tt mb mu W
      have HKS : Hid (∀ W, Below wr.heap.size wr W → W.heap[w.heap.size]? = some (srO v0 tt mb) ∧ W.heap[n5]? = some (wyO c) ∧ W.cell? ⟨g, m, none⟩ = some (.map (some mu))) := fun W K => ⟨HSO.out W (HI.out.low.trans (K.mono HI.out.low.size)), kept K (lt_of HI.out.wb) HI.out.wb, (K.cell (p := ⟨g, m, none⟩) (Nat.lt_of_lt_of_le HGC.out.1 HI.out.low.size)).trans hcm⟩
      have HSC : Hid (∀ W : World, (W.heap[w.heap.size]? = some (srO v0 tt mb) ∧ W.heap[n5]? = some (wyO c) ∧ W.cell? ⟨g, m, none⟩ = some (.map (some mu))) → W.cell? ⟨w.heap.size, 0, none⟩ = some (.int .i64 v0.s) ∧ W.cell? ⟨w.heap.size, 1, none⟩ = some (.int .i64 v0.y) ∧ W.cell? ⟨w.heap.size, 2, none⟩ = some (.int .i64 (v0.n : Int)) ∧ W.cell? ⟨w.heap.size, 3, none⟩ = some (.int .i64 tt) ∧ W.cell? ⟨w.heap.size, 4, none⟩ = some (.map (some mb))) := fun W q => ⟨cell_at q.1 0, cell_at q.1 1, cell_at q.1 2, cell_at q.1 3, cell_at q.1 4⟩
      have HWC : Hid (∀ W : World, (W.heap[w.heap.size]? = some (srO v0 tt mb) ∧ W.heap[n5]? = some (wyO c) ∧ W.cell? ⟨g, m, none⟩ = some (.map (some mu))) → W.cell? ⟨n5, 0, none⟩ = some (.int .i64 c.s) ∧ W.cell? ⟨n5, 1, none⟩ = some (.int .i64 c.y) ∧ W.cell? ⟨n5, 2, none⟩ = some (.int .i64 (c.n : Int))) := fun W q => ⟨cell_at q.2.1 0, cell_at q.2.1 1, cell_at q.2.1 2⟩
      have HMC : Hid (∀ W : World, (W.heap[w.heap.size]? = some (srO v0 tt mb) ∧ W.heap[n5]? = some (wyO c) ∧ W.cell? ⟨g, m, none⟩ = some (.map (some mu))) → W.cell? ⟨g, m, none⟩ = some (.map (some mu))) := fun W q => q.2.2
      have HST : Hid (h ∈ H ∧ Tim H tt v.y m h.r.to (h.z + 3) ∧ ∀ q, q.length = m → Grd H tt v.y h.r.to (h.z + 3) q → Grd H tt v.y c.s c.y (h :: q)) := ⟨hH1, hT1, hGo⟩
      have HHB : Hid (_) := hHb
      have K0 : Below wr.heap.size wr wr.drew := (Below.refl _ _).drew
      have hNm : (m : Int) < (v.n : Int) := by omega
      have hNv : ms.length = v.n := HMN.out
      clear hu1 hMi hLat hfo hH1 hH2 hH3 hT1 hGo hfo2 hcm hMr hmu hHb hmv hkn
      go_wp2_with fail
      refine wp_region_held_drew (S := (fun w' => w'.heap[w.heap.size]? = some (srO v0 tt mb) ∧ w'.heap[n5]? = some (wyO c) ∧ w'.cell? ⟨g, m, none⟩ = some (.map (some mu)))) (by kernel_rfl) ?_ (fun hHeld => ?_)
      · exact HKS.out _ K0
      refine wpAnyH_take (i := 0) (v := .agg #[.int .i64 v0.s, .int .i64 v0.y, .int .i64 (v0.n : Int), .int .i64 tt, .map (some mb)]) rfl (by kernel_rfl) (by kernel_rfl) (by kernel_rfl) (fun _ _ _ h => h) (Or.inl ⟨by kernel_rfl, fun w hSw => by first | (obtain ⟨z0, z1, z2, z3, z4⟩ := HSC.out _ hSw; go_simp; done) | (go_simp; done) | (dsimp only at hSw; obtain ⟨hS0, hS1, hS2⟩ := hSw; go_simp; done) | rfl⟩) (by assumption) ?_
      simp only [Act.put, List.getElem_toArray, List.getElem_cons_succ, List.getElem_cons_zero, List.setIfInBounds_toArray, List.set_cons_succ, List.set_cons_zero]
      refine wpAnyH_take (i := 1) (v := .agg #[.int .i64 c.s, .int .i64 c.y, .int .i64 (c.n : Int)]) rfl (by kernel_rfl) (by kernel_rfl) (by kernel_rfl) (fun _ _ _ h => h) (Or.inl ⟨by kernel_rfl, fun w hSw => by first | (obtain ⟨z0, z1, z2⟩ := HWC.out _ hSw; go_simp; done) | (go_simp; done) | (dsimp only at hSw; obtain ⟨hS0, hS1, hS2⟩ := hSw; go_simp; done) | rfl⟩) (by assumption) ?_
      simp only [Act.put, List.getElem_toArray, List.getElem_cons_succ, List.getElem_cons_zero, List.setIfInBounds_toArray, List.set_cons_succ, List.set_cons_zero]
      refine wpAnyH_take (i := 2) (v := .slice (some ⟨g, 0, none⟩) v.n cap) rfl (by kernel_rfl) (by kernel_rfl) (by kernel_rfl) (fun _ _ _ h => h) (Or.inl ⟨by kernel_rfl, fun w hSw => by first | (go_simp; done) | (dsimp only at hSw; obtain ⟨hS0, hS1, hS2⟩ := hSw; go_simp; done) | rfl⟩) (by assumption) ?_
      simp only [Act.put, List.getElem_toArray, List.getElem_cons_succ, List.getElem_cons_zero, List.setIfInBounds_toArray, List.set_cons_succ, List.set_cons_zero]
      refine wpAnyH_take (i := 3) (v := .int .i64 (m : Int)) rfl (by kernel_rfl) (by kernel_rfl) (by kernel_rfl) (fun _ _ _ h => h) (Or.inl ⟨by kernel_rfl, fun w hSw => by first | (go_simp; done) | (dsimp only at hSw; obtain ⟨hS0, hS1, hS2⟩ := hSw; go_simp; done) | rfl⟩) (by assumption) ?_
      simp only [Act.put, List.getElem_toArray, List.getElem_cons_succ, List.getElem_cons_zero, List.setIfInBounds_toArray, List.set_cons_succ, List.set_cons_zero]
      refine wpAnyH_take (i := 4) (v := .pointer (some ⟨g, m, none⟩)) rfl (by kernel_rfl) (by kernel_rfl) (by kernel_rfl) (fun _ _ _ h => h) (Or.inl ⟨by kernel_rfl, fun w hSw => by first | (go_simp; done) | (dsimp only at hSw; obtain ⟨hS0, hS1, hS2⟩ := hSw; go_simp; done) | rfl⟩) (by assumption) ?_
      simp only [Act.put, List.getElem_toArray, List.getElem_cons_succ, List.getElem_cons_zero, List.setIfInBounds_toArray, List.set_cons_succ, List.set_cons_zero]
      refine wpAnyH_take (i := 5) (v := .map (some mu)) rfl (by kernel_rfl) (by kernel_rfl) (by kernel_rfl) (fun _ _ _ h => h) (Or.inl ⟨by kernel_rfl, fun w hSw => by first | (have z0 := HMC.out _ hSw; go_simp; done) | (go_simp; done) | (dsimp only at hSw; obtain ⟨hS0, hS1, hS2⟩ := hSw; go_simp; done) | rfl⟩) (by assumption) ?_
      simp only [Act.put, List.getElem_toArray, List.getElem_cons_succ, List.getElem_cons_zero, List.setIfInBounds_toArray, List.set_cons_succ, List.set_cons_zero]
      refine wpAnyH_ready (rs := [6, 8]) (by kernel_rfl) (by simp) ?_
      refine AllReadyH.cons rfl (fun K hK => ?_) (AllReadyH.cons rfl (fun K hK => ?_) (AllReadyH.nil))
      · go_simp
        go_wp2_with ((try clear KX); go_at_call 57; (with_reducible refine (HAS.out _).mono ?_); rintro e w6 ⟨sb, wb, ub, rfl, ⟨q1, q2, q3⟩, L6⟩; have K6 : Below wr.heap.size wr w6 := (by first | exact K0.trans (L6.mono K0.size) | exact KA0.trans (L6.mono KA0.size)); (try (have x9b := kept L6 (lt_of x9a) x9a)))
        refine hK.out _ _ ?_ (fun hHeld2 => ?_)
        · first | with_reducible exact hHeld | exact HKS.out _ KX | (refine HKS.out _ ?_; first | with_reducible exact K7 | with_reducible exact K6)
        clear hK K hHeld
        have hHeld := hHeld2
        clear hHeld2
        refine wpAnyH_ready (rs := [7, 8]) (by kernel_rfl) (by simp) ?_
        refine AllReadyH.cons rfl (fun K hK => ?_) (AllReadyH.cons rfl (fun K hK => ?_) (AllReadyH.nil))
        · go_simp
          go_wp2_with ((try clear KX); go_at_call 56; (with_reducible refine (HFO.out sb wb ub _ (by first | exact K6 | exact KA6) (by first | exact q1 | exact heap_old q1 _) (by first | exact q2 | exact heap_old q2 _) (by first | exact q3 | exact heap_old q3 _)).mono ?_); rintro e w7 ⟨rfl, L7⟩; have K7 : Below wr.heap.size wr w7 := (by first | exact K6.trans (L7.mono K6.size) | exact KA6.trans (L7.mono KA6.size)); (try (have x9c := kept L7 (lt_of x9b) x9b)))
          refine hK.out _ _ ?_ (fun hHeld2 => ?_)
          · first | with_reducible exact hHeld | exact HKS.out _ KX | (refine HKS.out _ ?_; first | with_reducible exact K7 | with_reducible exact K6)
          clear hK K hHeld
          have hHeld := hHeld2
          clear hHeld2
          refine wpAnyH_ready (rs := [8]) (by kernel_rfl) (by simp) ?_
          refine AllReadyH.cons rfl (fun K hK => ?_) (AllReadyH.nil)
          rw [if_pos (by kernel_rfl)]
          first | (have x9c := heap_new w7 (.cells #[.int .i64 0, .int .i64 0, .int .i64 0, .int .i64 0, .int .i64 0, .int .i64 0] 76); have KA7 : Below wr.heap.size wr (w7.alloc (.cells #[.int .i64 0, .int .i64 0, .int .i64 0, .int .i64 0, .int .i64 0, .int .i64 0] 76)) := K7.trans ((new_below _ _).mono K7.size); have KX := KA7; go_simp) | (have x9b := heap_new w6 (.cells #[.int .i64 0, .int .i64 0, .int .i64 0, .int .i64 0, .int .i64 0, .int .i64 0] 76); have KA6 : Below wr.heap.size wr (w6.alloc (.cells #[.int .i64 0, .int .i64 0, .int .i64 0, .int .i64 0, .int .i64 0, .int .i64 0] 76)) := K6.trans ((new_below _ _).mono K6.size); have KX := KA6; go_simp) | (have x9a : (wr.drew.alloc (.cells #[.int .i64 0, .int .i64 0, .int .i64 0, .int .i64 0, .int .i64 0, .int .i64 0] 76)).heap[wr.heap.size]? = some (.cells #[.int .i64 0, .int .i64 0, .int .i64 0, .int .i64 0, .int .i64 0, .int .i64 0] 76) := heap_new wr.drew _; have KA0 : Below wr.heap.size wr (wr.drew.alloc (.cells #[.int .i64 0, .int .i64 0, .int .i64 0, .int .i64 0, .int .i64 0, .int .i64 0] 76)) := K0.trans ((new_below _ _).mono K0.size); have KX := KA0; go_simp)
          try simp only [Act.put, List.getElem_toArray, List.getElem_cons_succ, List.getElem_cons_zero, List.setIfInBounds_toArray, List.set_cons_succ, List.set_cons_zero]
          refine hK.out _ _ ?_ (fun hHeld2 => ?_)
          · first | with_reducible exact hHeld | exact HKS.out _ KX | (refine HKS.out _ ?_; first | with_reducible exact K7 | with_reducible exact K6)
          clear hK K hHeld
          have hHeld := hHeld2
          clear hHeld2
          refine wpAnyH_ready (rs := [9]) (by kernel_rfl) (by simp) ?_
          refine AllReadyH.cons rfl (fun K hK => ?_) AllReadyH.nil
          rw [if_pos (by kernel_rfl)]
          (try clear KX); (first | (have KZ := KA7; have KX : Below wr.heap.size wr (w7.alloc (.cells #[.int .i64 h.r.tr, .int .i64 h.r.dy, .int .i64 h.r.fr, .int .i64 h.r.to, .int .i64 h.d, .int .i64 h.z] 76)) := K7.trans ((new_below w7 (hpO h)).mono K7.size); have XF : (w7.alloc (.cells #[.int .i64 h.r.tr, .int .i64 h.r.dy, .int .i64 h.r.fr, .int .i64 h.r.to, .int .i64 h.d, .int .i64 h.z] 76)).heap[w7.heap.size]? = some (hpO h) := heap_new w7 (hpO h)) | (have KZ := KA6; have KX : Below wr.heap.size wr (((((((w7).setCell ⟨w6.heap.size, 0, none⟩ (.int .i64 h.r.tr)).setCell ⟨w6.heap.size, 1, none⟩ (.int .i64 h.r.dy)).setCell ⟨w6.heap.size, 2, none⟩ (.int .i64 h.r.fr)).setCell ⟨w6.heap.size, 3, none⟩ (.int .i64 h.r.to)).setCell ⟨w6.heap.size, 4, none⟩ (.int .i64 h.d)).setCell ⟨w6.heap.size, 5, none⟩ (.int .i64 h.z)) := K7.trans (put6_below (P := w6.heap.size) K6.size h); have XF : (((((((w7).setCell ⟨w6.heap.size, 0, none⟩ (.int .i64 h.r.tr)).setCell ⟨w6.heap.size, 1, none⟩ (.int .i64 h.r.dy)).setCell ⟨w6.heap.size, 2, none⟩ (.int .i64 h.r.fr)).setCell ⟨w6.heap.size, 3, none⟩ (.int .i64 h.r.to)).setCell ⟨w6.heap.size, 4, none⟩ (.int .i64 h.d)).setCell ⟨w6.heap.size, 5, none⟩ (.int .i64 h.z)).heap[w6.heap.size]? = some (hpO h) := put6_heap (f := hz0) x9c h) | (have KZ := KA0; have KX : Below wr.heap.size wr (((((((w7).setCell ⟨wr.heap.size, 0, none⟩ (.int .i64 h.r.tr)).setCell ⟨wr.heap.size, 1, none⟩ (.int .i64 h.r.dy)).setCell ⟨wr.heap.size, 2, none⟩ (.int .i64 h.r.fr)).setCell ⟨wr.heap.size, 3, none⟩ (.int .i64 h.r.to)).setCell ⟨wr.heap.size, 4, none⟩ (.int .i64 h.d)).setCell ⟨wr.heap.size, 5, none⟩ (.int .i64 h.z)) := K7.trans (put6_below (P := wr.heap.size) (Nat.le_refl _) h); have XF : (((((((w7).setCell ⟨wr.heap.size, 0, none⟩ (.int .i64 h.r.tr)).setCell ⟨wr.heap.size, 1, none⟩ (.int .i64 h.r.dy)).setCell ⟨wr.heap.size, 2, none⟩ (.int .i64 h.r.fr)).setCell ⟨wr.heap.size, 3, none⟩ (.int .i64 h.r.to)).setCell ⟨wr.heap.size, 4, none⟩ (.int .i64 h.d)).setCell ⟨wr.heap.size, 5, none⟩ (.int .i64 h.z)).heap[wr.heap.size]? = some (hpO h) := put6_heap (f := hz0) x9c h)); have p0 := cell_at x9c 0; have f0 := frozen_at x9c 0; have p1 := cell_at x9c 1; have f1 := frozen_at x9c 1; have p2 := cell_at x9c 2; have f2 := frozen_at x9c 2; have p3 := cell_at x9c 3; have f3 := frozen_at x9c 3; have p4 := cell_at x9c 4; have f4 := frozen_at x9c 4; have p5 := cell_at x9c 5; have f5 := frozen_at x9c 5; simp at p0 p1 p2 p3 p4 p5; go_simp
          try simp only [Act.put, List.getElem_toArray, List.getElem_cons_succ, List.getElem_cons_zero, List.setIfInBounds_toArray, List.set_cons_succ, List.set_cons_zero]
          refine hK.out _ _ ?_ (fun hHeld2 => ?_)
          · first | with_reducible exact hHeld | exact HKS.out _ KX | (refine HKS.out _ ?_; first | with_reducible exact K7 | with_reducible exact K6)
          clear hK K hHeld
          have hHeld := hHeld2
          clear hHeld2
          refine wpAnyH_done (by kernel_rfl) ?_ _
          have HQ : ∃ P9, w7.heap.size = P9 ∧ wr.heap.size ≤ P9 := ⟨_, rfl, by first | exact K7.size | exact K6.size | exact Nat.le_refl _⟩
          obtain ⟨P9, hP9, HPB⟩ := HQ
          clear p0 p1 p2 p3 p4 p5 f0 f1 f2 f3 f4 f5 x9c KZ
          try clear x9b
          try clear x9a
          clear q1 q2 q3 hHeld HKS HAS HFO HSC HWC HMC K0
          generalize (w7.alloc (.cells #[.int .i64 h.r.tr, .int .i64 h.r.dy, .int .i64 h.r.fr, .int .i64 h.r.to, .int .i64 h.d, .int .i64 h.z] 76)) = Wf at *
          rw [hP9] at XF ⊢
          clear hP9 K7 K6 L6 L7
          try clear KA0
          try clear KA6
          try clear KA7
          subst hrv
          have wbf : Wf.heap[n5]? = some (wyO c) := kept KX (lt_of HI.out.wb) HI.out.wb
          have t0 : Wf.cell? ⟨P9, 0, none⟩ = some (.int .i64 h.r.tr) := cell_at XF 0
          have t1 : Wf.cell? ⟨P9, 1, none⟩ = some (.int .i64 h.r.dy) := cell_at XF 1
          have t2 : Wf.cell? ⟨P9, 2, none⟩ = some (.int .i64 h.r.fr) := cell_at XF 2
          have t3 : Wf.cell? ⟨P9, 3, none⟩ = some (.int .i64 h.r.to) := cell_at XF 3
          have hn5 : n5 < wr.heap.size := lt_of HI.out.wb
          have HOF : Hid (some P9 ≠ (Value.slice ra p.length rc).ownBlock) := fun e => by
            have := (HI.out.row.lt P9 e.symm).2
            omega
          have hpl : p.length < 7 := by have := HI.out.len; omega
          have HBE : Hid (∀ W : World, _) := fun W => Tn.behind_val h.r h.d h.z c.s c.y (c.n : Int) W HHB.out.2.2.1 HHB.out.2.2.2.1 (by omega) (by have := HI.out.cn; omega)
          have HXF : Hid (_) := XF
          have HWF : Hid (_) := wbf
          clear XF wbf
          go_wp2_with (at_builtin; refine wpList_plain rfl (fun K hK => ?_); have KT : Below wr.heap.size wr (Wf.alloc (.cells #[.int .i64 h.r.tr, .int .i64 h.r.dy, .int .i64 h.r.fr, .int .i64 h.r.to] 37)) := KX.trans ((new_below Wf _).mono KX.size); have OA := own_kept HI.out.row (below_grown KT none) (fun q _ => by simp); refine wp_append_at _ _ 27 rfl w4.heap.size 37 i0 (lgV ⟨0, 0, 0, 0⟩) 4 32 Try.underlying27 hi hz0' hz1 hz2 rfl (by decide) (.slice ra p.length rc) p.length (rcells (ridesOf p)) rfl OA ⟨Wf.heap.size, 0, none⟩ 1 1 [.int .i64 h.r.tr, .int .i64 h.r.dy, .int .i64 h.r.fr, .int .i64 h.r.to] rfl rfl (four_new (heap_new Wf _)) (fun u hu => by simp at hu; rcases hu with rfl | rfl | rfl | rfl <;> rfl) (by unfold maxLen; omega) (by omega) (Nat.le_trans HI.out.low.size KT.size) ?_; intro v9 w9 O9 G9 hl9; have wb9 : w9.heap[n5]? = some (wyO c) := (G9.block n5 (lt_of (heap_old HWF.out _)) (fun e => HI.out.off e.symm)).trans (heap_old HWF.out _); have x9 : w9.heap[P9]? = some (hpO h) := (G9.block P9 (lt_of (heap_old HXF.out _)) HOF.out).trans (heap_old HXF.out _); have s0 : w9.cell? ⟨P9, 0, none⟩ = some (.int .i64 h.r.tr) := cell_at x9 0; have s1 : w9.cell? ⟨P9, 1, none⟩ = some (.int .i64 h.r.dy) := cell_at x9 1; have s2 : w9.cell? ⟨P9, 2, none⟩ = some (.int .i64 h.r.fr) := cell_at x9 2; have s3 : w9.cell? ⟨P9, 3, none⟩ = some (.int .i64 h.r.to) := cell_at x9 3; have s4 : w9.cell? ⟨P9, 4, none⟩ = some (.int .i64 h.d) := cell_at x9 4; have s5 : w9.cell? ⟨P9, 5, none⟩ = some (.int .i64 h.z) := cell_at x9 5; have y0 : w9.cell? ⟨n5, 0, none⟩ = some (.int .i64 c.s) := cell_at wb9 0; have y1 : w9.cell? ⟨n5, 1, none⟩ = some (.int .i64 c.y) := cell_at wb9 1; have y2 : w9.cell? ⟨n5, 2, none⟩ = some (.int .i64 (c.n : Int)) := cell_at wb9 2; refine hK _ _ ?_)
          refine (HBE.out _).mono ?_
          rintro e w10 ⟨rfl, L10⟩
          have wb10 := kept L10 (lt_of wb9) wb9
          have O10 := own_kept O9 (below_grown L10 none) (fun q _ => by simp)
          have LT : Below w4.heap.size w4 (Wf.alloc (.cells #[.int .i64 h.r.tr, .int .i64 h.r.dy, .int .i64 h.r.fr, .int .i64 h.r.to] 37)) := HI.out.low.trans (KT.mono HI.out.low.size)
          have L9 : Below w4.heap.size w4 w9 := LT.trans ⟨G9.os, G9.tape, G9.output, G9.size, fun q hq => G9.block q (Nat.lt_of_lt_of_le hq LT.size) (fun e => by have := (HI.out.row.lt q e.symm).1; omega)⟩
          have L10' : Below w4.heap.size w4 w10 := L9.trans (L10.mono L9.size)
          have hof : v9.ownBlock ≠ some n5 := by
            rcases hl9 with e | e
            · rw [e]; exact HI.out.off
            · rw [e]
              intro e2
              simp only [Option.some.injEq] at e2
              have := KT.size
              omega
          have y0 : w10.cell? ⟨n5, 0, none⟩ = some (.int .i64 c.s) := cell_at wb10 0
          have y1 : w10.cell? ⟨n5, 1, none⟩ = some (.int .i64 c.y) := cell_at wb10 1
          have y2 : w10.cell? ⟨n5, 2, none⟩ = some (.int .i64 (c.n : Int)) := cell_at wb10 2
          have g0 : w10.frozen? ⟨n5, 0, none⟩ = false := frozen_at wb10 0
          have g1 : w10.frozen? ⟨n5, 1, none⟩ = false := frozen_at wb10 1
          have g2 : w10.frozen? ⟨n5, 2, none⟩ = false := frozen_at wb10 2
          have HIN : Hid (RdI H v0 v tt w4 n5 m (p ++ [h]) ⟨h.r.to, h.z + 3, c.n + 1⟩ v9 (((w10.setCell ⟨n5, 0, none⟩ (.int .i64 h.r.to)).setCell ⟨n5, 1, none⟩ (.int .i64 (h.z + 3))).setCell ⟨n5, 2, none⟩ (.int .i64 ((c.n : Int) + 1)))) := by
            have B : w4.heap.size ≤ n5 := h5s
            have G3 : w10.grownBy (((w10.setCell ⟨n5, 0, none⟩ (.int .i64 h.r.to)).setCell ⟨n5, 1, none⟩ (.int .i64 (h.z + 3))).setCell ⟨n5, 2, none⟩ (.int .i64 ((c.n : Int) + 1))) (some n5) := grow3 w10 n5 _ _ _
            refine ⟨by have := HI.out.len; simp; omega, by have := HI.out.cn; simp; omega, HHB.out.1, HST.out.2.1, fun q hq G => ?_, ((L10'.setCell (p := ⟨n5, 0, none⟩) B _).setCell (p := ⟨n5, 1, none⟩) B _).setCell (p := ⟨n5, 2, none⟩) B _, set_three wb10, ?_, hof⟩
            · have := HI.out.go (h :: q) (by simp [hq]) (HST.out.2.2 q hq G)
              simpa using this
            · have O11 := own_kept O10 G3 (fun q hq e => hof (by rw [hq, ← e]))
              have e1 : rcells (ridesOf (p ++ [h])) = rcells (ridesOf p) ++ [.int .i64 h.r.tr, .int .i64 h.r.dy, .int .i64 h.r.fr, .int .i64 h.r.to] := by simp [ridesOf, rcells]
              rw [e1, List.length_append, List.length_singleton]
              exact O11
          clear s0 s1 s2 s3 s4 s5 t0 t1 t2 t3 x9 wb9 wb10 O9 O10 G9 L10 L10' L9 LT KT OA hl9 hof HBE HXF HWF HOF KX
          go_wp2
          go_roundw
          case rel => exact ⟨m, p ++ [h], ⟨h.r.to, h.z + 3, c.n + 1⟩, by go_num, HIN⟩
          case measure => simp [intOf]
        · rw [if_pos (by kernel_rfl)]
          first | (have x9c := heap_new w7 (.cells #[.int .i64 0, .int .i64 0, .int .i64 0, .int .i64 0, .int .i64 0, .int .i64 0] 76); have KA7 : Below wr.heap.size wr (w7.alloc (.cells #[.int .i64 0, .int .i64 0, .int .i64 0, .int .i64 0, .int .i64 0, .int .i64 0] 76)) := K7.trans ((new_below _ _).mono K7.size); have KX := KA7; go_simp) | (have x9b := heap_new w6 (.cells #[.int .i64 0, .int .i64 0, .int .i64 0, .int .i64 0, .int .i64 0, .int .i64 0] 76); have KA6 : Below wr.heap.size wr (w6.alloc (.cells #[.int .i64 0, .int .i64 0, .int .i64 0, .int .i64 0, .int .i64 0, .int .i64 0] 76)) := K6.trans ((new_below _ _).mono K6.size); have KX := KA6; go_simp) | (have x9a : (wr.drew.alloc (.cells #[.int .i64 0, .int .i64 0, .int .i64 0, .int .i64 0, .int .i64 0, .int .i64 0] 76)).heap[wr.heap.size]? = some (.cells #[.int .i64 0, .int .i64 0, .int .i64 0, .int .i64 0, .int .i64 0, .int .i64 0] 76) := heap_new wr.drew _; have KA0 : Below wr.heap.size wr (wr.drew.alloc (.cells #[.int .i64 0, .int .i64 0, .int .i64 0, .int .i64 0, .int .i64 0, .int .i64 0] 76)) := K0.trans ((new_below _ _).mono K0.size); have KX := KA0; go_simp)
          try simp only [Act.put, List.getElem_toArray, List.getElem_cons_succ, List.getElem_cons_zero, List.setIfInBounds_toArray, List.set_cons_succ, List.set_cons_zero]
          refine hK.out _ _ ?_ (fun hHeld2 => ?_)
          · first | with_reducible exact hHeld | exact HKS.out _ KX | (refine HKS.out _ ?_; first | with_reducible exact K7 | with_reducible exact K6)
          clear hK K hHeld
          have hHeld := hHeld2
          clear hHeld2
          refine wpAnyH_ready (rs := [7]) (by kernel_rfl) (by simp) ?_
          refine AllReadyH.cons rfl (fun K hK => ?_) (AllReadyH.nil)
          go_simp
          go_wp2_with ((try clear KX); go_at_call 56; (with_reducible refine (HFO.out sb wb ub _ (by first | exact K6 | exact KA6) (by first | exact q1 | exact heap_old q1 _) (by first | exact q2 | exact heap_old q2 _) (by first | exact q3 | exact heap_old q3 _)).mono ?_); rintro e w7 ⟨rfl, L7⟩; have K7 : Below wr.heap.size wr w7 := (by first | exact K6.trans (L7.mono K6.size) | exact KA6.trans (L7.mono KA6.size)); (try (have x9c := kept L7 (lt_of x9b) x9b)))
          refine hK.out _ _ ?_ (fun hHeld2 => ?_)
          · first | with_reducible exact hHeld | exact HKS.out _ KX | (refine HKS.out _ ?_; first | with_reducible exact K7 | with_reducible exact K6)
          clear hK K hHeld
          have hHeld := hHeld2
          clear hHeld2
          refine wpAnyH_ready (rs := [9]) (by kernel_rfl) (by simp) ?_
          refine AllReadyH.cons rfl (fun K hK => ?_) AllReadyH.nil
          rw [if_pos (by kernel_rfl)]
          (try clear KX); (first | (have KZ := KA7; have KX : Below wr.heap.size wr (w7.alloc (.cells #[.int .i64 h.r.tr, .int .i64 h.r.dy, .int .i64 h.r.fr, .int .i64 h.r.to, .int .i64 h.d, .int .i64 h.z] 76)) := K7.trans ((new_below w7 (hpO h)).mono K7.size); have XF : (w7.alloc (.cells #[.int .i64 h.r.tr, .int .i64 h.r.dy, .int .i64 h.r.fr, .int .i64 h.r.to, .int .i64 h.d, .int .i64 h.z] 76)).heap[w7.heap.size]? = some (hpO h) := heap_new w7 (hpO h)) | (have KZ := KA6; have KX : Below wr.heap.size wr (((((((w7).setCell ⟨w6.heap.size, 0, none⟩ (.int .i64 h.r.tr)).setCell ⟨w6.heap.size, 1, none⟩ (.int .i64 h.r.dy)).setCell ⟨w6.heap.size, 2, none⟩ (.int .i64 h.r.fr)).setCell ⟨w6.heap.size, 3, none⟩ (.int .i64 h.r.to)).setCell ⟨w6.heap.size, 4, none⟩ (.int .i64 h.d)).setCell ⟨w6.heap.size, 5, none⟩ (.int .i64 h.z)) := K7.trans (put6_below (P := w6.heap.size) K6.size h); have XF : (((((((w7).setCell ⟨w6.heap.size, 0, none⟩ (.int .i64 h.r.tr)).setCell ⟨w6.heap.size, 1, none⟩ (.int .i64 h.r.dy)).setCell ⟨w6.heap.size, 2, none⟩ (.int .i64 h.r.fr)).setCell ⟨w6.heap.size, 3, none⟩ (.int .i64 h.r.to)).setCell ⟨w6.heap.size, 4, none⟩ (.int .i64 h.d)).setCell ⟨w6.heap.size, 5, none⟩ (.int .i64 h.z)).heap[w6.heap.size]? = some (hpO h) := put6_heap (f := hz0) x9c h) | (have KZ := KA0; have KX : Below wr.heap.size wr (((((((w7).setCell ⟨wr.heap.size, 0, none⟩ (.int .i64 h.r.tr)).setCell ⟨wr.heap.size, 1, none⟩ (.int .i64 h.r.dy)).setCell ⟨wr.heap.size, 2, none⟩ (.int .i64 h.r.fr)).setCell ⟨wr.heap.size, 3, none⟩ (.int .i64 h.r.to)).setCell ⟨wr.heap.size, 4, none⟩ (.int .i64 h.d)).setCell ⟨wr.heap.size, 5, none⟩ (.int .i64 h.z)) := K7.trans (put6_below (P := wr.heap.size) (Nat.le_refl _) h); have XF : (((((((w7).setCell ⟨wr.heap.size, 0, none⟩ (.int .i64 h.r.tr)).setCell ⟨wr.heap.size, 1, none⟩ (.int .i64 h.r.dy)).setCell ⟨wr.heap.size, 2, none⟩ (.int .i64 h.r.fr)).setCell ⟨wr.heap.size, 3, none⟩ (.int .i64 h.r.to)).setCell ⟨wr.heap.size, 4, none⟩ (.int .i64 h.d)).setCell ⟨wr.heap.size, 5, none⟩ (.int .i64 h.z)).heap[wr.heap.size]? = some (hpO h) := put6_heap (f := hz0) x9c h)); have p0 := cell_at x9c 0; have f0 := frozen_at x9c 0; have p1 := cell_at x9c 1; have f1 := frozen_at x9c 1; have p2 := cell_at x9c 2; have f2 := frozen_at x9c 2; have p3 := cell_at x9c 3; have f3 := frozen_at x9c 3; have p4 := cell_at x9c 4; have f4 := frozen_at x9c 4; have p5 := cell_at x9c 5; have f5 := frozen_at x9c 5; simp at p0 p1 p2 p3 p4 p5; go_simp
          try simp only [Act.put, List.getElem_toArray, List.getElem_cons_succ, List.getElem_cons_zero, List.setIfInBounds_toArray, List.set_cons_succ, List.set_cons_zero]
          refine hK.out _ _ ?_ (fun hHeld2 => ?_)
          · first | with_reducible exact hHeld | exact HKS.out _ KX | (refine HKS.out _ ?_; first | with_reducible exact K7 | with_reducible exact K6)
          clear hK K hHeld
          have hHeld := hHeld2
          clear hHeld2
          refine wpAnyH_done (by kernel_rfl) ?_ _
          have HQ : ∃ P9, w6.heap.size = P9 ∧ wr.heap.size ≤ P9 := ⟨_, rfl, by first | exact K7.size | exact K6.size | exact Nat.le_refl _⟩
          obtain ⟨P9, hP9, HPB⟩ := HQ
          clear p0 p1 p2 p3 p4 p5 f0 f1 f2 f3 f4 f5 x9c KZ
          try clear x9b
          try clear x9a
          clear q1 q2 q3 hHeld HKS HAS HFO HSC HWC HMC K0
          generalize (((((((w7).setCell ⟨w6.heap.size, 0, none⟩ (.int .i64 h.r.tr)).setCell ⟨w6.heap.size, 1, none⟩ (.int .i64 h.r.dy)).setCell ⟨w6.heap.size, 2, none⟩ (.int .i64 h.r.fr)).setCell ⟨w6.heap.size, 3, none⟩ (.int .i64 h.r.to)).setCell ⟨w6.heap.size, 4, none⟩ (.int .i64 h.d)).setCell ⟨w6.heap.size, 5, none⟩ (.int .i64 h.z)) = Wf at *
          rw [hP9] at XF ⊢
          clear hP9 K7 K6 L6 L7
          try clear KA0
          try clear KA6
          try clear KA7
          subst hrv
          have wbf : Wf.heap[n5]? = some (wyO c) := kept KX (lt_of HI.out.wb) HI.out.wb
          have t0 : Wf.cell? ⟨P9, 0, none⟩ = some (.int .i64 h.r.tr) := cell_at XF 0
          have t1 : Wf.cell? ⟨P9, 1, none⟩ = some (.int .i64 h.r.dy) := cell_at XF 1
          have t2 : Wf.cell? ⟨P9, 2, none⟩ = some (.int .i64 h.r.fr) := cell_at XF 2
          have t3 : Wf.cell? ⟨P9, 3, none⟩ = some (.int .i64 h.r.to) := cell_at XF 3
          have hn5 : n5 < wr.heap.size := lt_of HI.out.wb
          have HOF : Hid (some P9 ≠ (Value.slice ra p.length rc).ownBlock) := fun e => by
            have := (HI.out.row.lt P9 e.symm).2
            omega
          have hpl : p.length < 7 := by have := HI.out.len; omega
          have HBE : Hid (∀ W : World, _) := fun W => Tn.behind_val h.r h.d h.z c.s c.y (c.n : Int) W HHB.out.2.2.1 HHB.out.2.2.2.1 (by omega) (by have := HI.out.cn; omega)
          have HXF : Hid (_) := XF
          have HWF : Hid (_) := wbf
          clear XF wbf
          go_wp2_with (at_builtin; refine wpList_plain rfl (fun K hK => ?_); have KT : Below wr.heap.size wr (Wf.alloc (.cells #[.int .i64 h.r.tr, .int .i64 h.r.dy, .int .i64 h.r.fr, .int .i64 h.r.to] 37)) := KX.trans ((new_below Wf _).mono KX.size); have OA := own_kept HI.out.row (below_grown KT none) (fun q _ => by simp); refine wp_append_at _ _ 27 rfl w4.heap.size 37 i0 (lgV ⟨0, 0, 0, 0⟩) 4 32 Try.underlying27 hi hz0' hz1 hz2 rfl (by decide) (.slice ra p.length rc) p.length (rcells (ridesOf p)) rfl OA ⟨Wf.heap.size, 0, none⟩ 1 1 [.int .i64 h.r.tr, .int .i64 h.r.dy, .int .i64 h.r.fr, .int .i64 h.r.to] rfl rfl (four_new (heap_new Wf _)) (fun u hu => by simp at hu; rcases hu with rfl | rfl | rfl | rfl <;> rfl) (by unfold maxLen; omega) (by omega) (Nat.le_trans HI.out.low.size KT.size) ?_; intro v9 w9 O9 G9 hl9; have wb9 : w9.heap[n5]? = some (wyO c) := (G9.block n5 (lt_of (heap_old HWF.out _)) (fun e => HI.out.off e.symm)).trans (heap_old HWF.out _); have x9 : w9.heap[P9]? = some (hpO h) := (G9.block P9 (lt_of (heap_old HXF.out _)) HOF.out).trans (heap_old HXF.out _); have s0 : w9.cell? ⟨P9, 0, none⟩ = some (.int .i64 h.r.tr) := cell_at x9 0; have s1 : w9.cell? ⟨P9, 1, none⟩ = some (.int .i64 h.r.dy) := cell_at x9 1; have s2 : w9.cell? ⟨P9, 2, none⟩ = some (.int .i64 h.r.fr) := cell_at x9 2; have s3 : w9.cell? ⟨P9, 3, none⟩ = some (.int .i64 h.r.to) := cell_at x9 3; have s4 : w9.cell? ⟨P9, 4, none⟩ = some (.int .i64 h.d) := cell_at x9 4; have s5 : w9.cell? ⟨P9, 5, none⟩ = some (.int .i64 h.z) := cell_at x9 5; have y0 : w9.cell? ⟨n5, 0, none⟩ = some (.int .i64 c.s) := cell_at wb9 0; have y1 : w9.cell? ⟨n5, 1, none⟩ = some (.int .i64 c.y) := cell_at wb9 1; have y2 : w9.cell? ⟨n5, 2, none⟩ = some (.int .i64 (c.n : Int)) := cell_at wb9 2; refine hK _ _ ?_)
          refine (HBE.out _).mono ?_
          rintro e w10 ⟨rfl, L10⟩
          have wb10 := kept L10 (lt_of wb9) wb9
          have O10 := own_kept O9 (below_grown L10 none) (fun q _ => by simp)
          have LT : Below w4.heap.size w4 (Wf.alloc (.cells #[.int .i64 h.r.tr, .int .i64 h.r.dy, .int .i64 h.r.fr, .int .i64 h.r.to] 37)) := HI.out.low.trans (KT.mono HI.out.low.size)
          have L9 : Below w4.heap.size w4 w9 := LT.trans ⟨G9.os, G9.tape, G9.output, G9.size, fun q hq => G9.block q (Nat.lt_of_lt_of_le hq LT.size) (fun e => by have := (HI.out.row.lt q e.symm).1; omega)⟩
          have L10' : Below w4.heap.size w4 w10 := L9.trans (L10.mono L9.size)
          have hof : v9.ownBlock ≠ some n5 := by
            rcases hl9 with e | e
            · rw [e]; exact HI.out.off
            · rw [e]
              intro e2
              simp only [Option.some.injEq] at e2
              have := KT.size
              omega
          have y0 : w10.cell? ⟨n5, 0, none⟩ = some (.int .i64 c.s) := cell_at wb10 0
          have y1 : w10.cell? ⟨n5, 1, none⟩ = some (.int .i64 c.y) := cell_at wb10 1
          have y2 : w10.cell? ⟨n5, 2, none⟩ = some (.int .i64 (c.n : Int)) := cell_at wb10 2
          have g0 : w10.frozen? ⟨n5, 0, none⟩ = false := frozen_at wb10 0
          have g1 : w10.frozen? ⟨n5, 1, none⟩ = false := frozen_at wb10 1
          have g2 : w10.frozen? ⟨n5, 2, none⟩ = false := frozen_at wb10 2
          have HIN : Hid (RdI H v0 v tt w4 n5 m (p ++ [h]) ⟨h.r.to, h.z + 3, c.n + 1⟩ v9 (((w10.setCell ⟨n5, 0, none⟩ (.int .i64 h.r.to)).setCell ⟨n5, 1, none⟩ (.int .i64 (h.z + 3))).setCell ⟨n5, 2, none⟩ (.int .i64 ((c.n : Int) + 1)))) := by
            have B : w4.heap.size ≤ n5 := h5s
            have G3 : w10.grownBy (((w10.setCell ⟨n5, 0, none⟩ (.int .i64 h.r.to)).setCell ⟨n5, 1, none⟩ (.int .i64 (h.z + 3))).setCell ⟨n5, 2, none⟩ (.int .i64 ((c.n : Int) + 1))) (some n5) := grow3 w10 n5 _ _ _
            refine ⟨by have := HI.out.len; simp; omega, by have := HI.out.cn; simp; omega, HHB.out.1, HST.out.2.1, fun q hq G => ?_, ((L10'.setCell (p := ⟨n5, 0, none⟩) B _).setCell (p := ⟨n5, 1, none⟩) B _).setCell (p := ⟨n5, 2, none⟩) B _, set_three wb10, ?_, hof⟩
            · have := HI.out.go (h :: q) (by simp [hq]) (HST.out.2.2 q hq G)
              simpa using this
            · have O11 := own_kept O10 G3 (fun q hq e => hof (by rw [hq, ← e]))
              have e1 : rcells (ridesOf (p ++ [h])) = rcells (ridesOf p) ++ [.int .i64 h.r.tr, .int .i64 h.r.dy, .int .i64 h.r.fr, .int .i64 h.r.to] := by simp [ridesOf, rcells]
              rw [e1, List.length_append, List.length_singleton]
              exact O11
          clear s0 s1 s2 s3 s4 s5 t0 t1 t2 t3 x9 wb9 wb10 O9 O10 G9 L10 L10' L9 LT KT OA hl9 hof HBE HXF HWF HOF KX
          go_wp2
          go_roundw
          case rel => exact ⟨m, p ++ [h], ⟨h.r.to, h.z + 3, c.n + 1⟩, by go_num, HIN⟩
          case measure => simp [intOf]
      · rw [if_pos (by kernel_rfl)]
        first | (have x9c := heap_new w7 (.cells #[.int .i64 0, .int .i64 0, .int .i64 0, .int .i64 0, .int .i64 0, .int .i64 0] 76); have KA7 : Below wr.heap.size wr (w7.alloc (.cells #[.int .i64 0, .int .i64 0, .int .i64 0, .int .i64 0, .int .i64 0, .int .i64 0] 76)) := K7.trans ((new_below _ _).mono K7.size); have KX := KA7; go_simp) | (have x9b := heap_new w6 (.cells #[.int .i64 0, .int .i64 0, .int .i64 0, .int .i64 0, .int .i64 0, .int .i64 0] 76); have KA6 : Below wr.heap.size wr (w6.alloc (.cells #[.int .i64 0, .int .i64 0, .int .i64 0, .int .i64 0, .int .i64 0, .int .i64 0] 76)) := K6.trans ((new_below _ _).mono K6.size); have KX := KA6; go_simp) | (have x9a : (wr.drew.alloc (.cells #[.int .i64 0, .int .i64 0, .int .i64 0, .int .i64 0, .int .i64 0, .int .i64 0] 76)).heap[wr.heap.size]? = some (.cells #[.int .i64 0, .int .i64 0, .int .i64 0, .int .i64 0, .int .i64 0, .int .i64 0] 76) := heap_new wr.drew _; have KA0 : Below wr.heap.size wr (wr.drew.alloc (.cells #[.int .i64 0, .int .i64 0, .int .i64 0, .int .i64 0, .int .i64 0, .int .i64 0] 76)) := K0.trans ((new_below _ _).mono K0.size); have KX := KA0; go_simp)
        try simp only [Act.put, List.getElem_toArray, List.getElem_cons_succ, List.getElem_cons_zero, List.setIfInBounds_toArray, List.set_cons_succ, List.set_cons_zero]
        refine hK.out _ _ ?_ (fun hHeld2 => ?_)
        · first | with_reducible exact hHeld | exact HKS.out _ KX | (refine HKS.out _ ?_; first | with_reducible exact K7 | with_reducible exact K6)
        clear hK K hHeld
        have hHeld := hHeld2
        clear hHeld2
        refine wpAnyH_ready (rs := [6]) (by kernel_rfl) (by simp) ?_
        refine AllReadyH.cons rfl (fun K hK => ?_) (AllReadyH.nil)
        go_simp
        go_wp2_with ((try clear KX); go_at_call 57; (with_reducible refine (HAS.out _).mono ?_); rintro e w6 ⟨sb, wb, ub, rfl, ⟨q1, q2, q3⟩, L6⟩; have K6 : Below wr.heap.size wr w6 := (by first | exact K0.trans (L6.mono K0.size) | exact KA0.trans (L6.mono KA0.size)); (try (have x9b := kept L6 (lt_of x9a) x9a)))
        refine hK.out _ _ ?_ (fun hHeld2 => ?_)
        · first | with_reducible exact hHeld | exact HKS.out _ KX | (refine HKS.out _ ?_; first | with_reducible exact K7 | with_reducible exact K6)
        clear hK K hHeld
        have hHeld := hHeld2
        clear hHeld2
        refine wpAnyH_ready (rs := [7]) (by kernel_rfl) (by simp) ?_
        refine AllReadyH.cons rfl (fun K hK => ?_) (AllReadyH.nil)
        go_simp
        go_wp2_with ((try clear KX); go_at_call 56; (with_reducible refine (HFO.out sb wb ub _ (by first | exact K6 | exact KA6) (by first | exact q1 | exact heap_old q1 _) (by first | exact q2 | exact heap_old q2 _) (by first | exact q3 | exact heap_old q3 _)).mono ?_); rintro e w7 ⟨rfl, L7⟩; have K7 : Below wr.heap.size wr w7 := (by first | exact K6.trans (L7.mono K6.size) | exact KA6.trans (L7.mono KA6.size)); (try (have x9c := kept L7 (lt_of x9b) x9b)))
        refine hK.out _ _ ?_ (fun hHeld2 => ?_)
        · first | with_reducible exact hHeld | exact HKS.out _ KX | (refine HKS.out _ ?_; first | with_reducible exact K7 | with_reducible exact K6)
        clear hK K hHeld
        have hHeld := hHeld2
        clear hHeld2
        refine wpAnyH_ready (rs := [9]) (by kernel_rfl) (by simp) ?_
        refine AllReadyH.cons rfl (fun K hK => ?_) AllReadyH.nil
        rw [if_pos (by kernel_rfl)]
        (try clear KX); (first | (have KZ := KA7; have KX : Below wr.heap.size wr (w7.alloc (.cells #[.int .i64 h.r.tr, .int .i64 h.r.dy, .int .i64 h.r.fr, .int .i64 h.r.to, .int .i64 h.d, .int .i64 h.z] 76)) := K7.trans ((new_below w7 (hpO h)).mono K7.size); have XF : (w7.alloc (.cells #[.int .i64 h.r.tr, .int .i64 h.r.dy, .int .i64 h.r.fr, .int .i64 h.r.to, .int .i64 h.d, .int .i64 h.z] 76)).heap[w7.heap.size]? = some (hpO h) := heap_new w7 (hpO h)) | (have KZ := KA6; have KX : Below wr.heap.size wr (((((((w7).setCell ⟨w6.heap.size, 0, none⟩ (.int .i64 h.r.tr)).setCell ⟨w6.heap.size, 1, none⟩ (.int .i64 h.r.dy)).setCell ⟨w6.heap.size, 2, none⟩ (.int .i64 h.r.fr)).setCell ⟨w6.heap.size, 3, none⟩ (.int .i64 h.r.to)).setCell ⟨w6.heap.size, 4, none⟩ (.int .i64 h.d)).setCell ⟨w6.heap.size, 5, none⟩ (.int .i64 h.z)) := K7.trans (put6_below (P := w6.heap.size) K6.size h); have XF : (((((((w7).setCell ⟨w6.heap.size, 0, none⟩ (.int .i64 h.r.tr)).setCell ⟨w6.heap.size, 1, none⟩ (.int .i64 h.r.dy)).setCell ⟨w6.heap.size, 2, none⟩ (.int .i64 h.r.fr)).setCell ⟨w6.heap.size, 3, none⟩ (.int .i64 h.r.to)).setCell ⟨w6.heap.size, 4, none⟩ (.int .i64 h.d)).setCell ⟨w6.heap.size, 5, none⟩ (.int .i64 h.z)).heap[w6.heap.size]? = some (hpO h) := put6_heap (f := hz0) x9c h) | (have KZ := KA0; have KX : Below wr.heap.size wr (((((((w7).setCell ⟨wr.heap.size, 0, none⟩ (.int .i64 h.r.tr)).setCell ⟨wr.heap.size, 1, none⟩ (.int .i64 h.r.dy)).setCell ⟨wr.heap.size, 2, none⟩ (.int .i64 h.r.fr)).setCell ⟨wr.heap.size, 3, none⟩ (.int .i64 h.r.to)).setCell ⟨wr.heap.size, 4, none⟩ (.int .i64 h.d)).setCell ⟨wr.heap.size, 5, none⟩ (.int .i64 h.z)) := K7.trans (put6_below (P := wr.heap.size) (Nat.le_refl _) h); have XF : (((((((w7).setCell ⟨wr.heap.size, 0, none⟩ (.int .i64 h.r.tr)).setCell ⟨wr.heap.size, 1, none⟩ (.int .i64 h.r.dy)).setCell ⟨wr.heap.size, 2, none⟩ (.int .i64 h.r.fr)).setCell ⟨wr.heap.size, 3, none⟩ (.int .i64 h.r.to)).setCell ⟨wr.heap.size, 4, none⟩ (.int .i64 h.d)).setCell ⟨wr.heap.size, 5, none⟩ (.int .i64 h.z)).heap[wr.heap.size]? = some (hpO h) := put6_heap (f := hz0) x9c h)); have p0 := cell_at x9c 0; have f0 := frozen_at x9c 0; have p1 := cell_at x9c 1; have f1 := frozen_at x9c 1; have p2 := cell_at x9c 2; have f2 := frozen_at x9c 2; have p3 := cell_at x9c 3; have f3 := frozen_at x9c 3; have p4 := cell_at x9c 4; have f4 := frozen_at x9c 4; have p5 := cell_at x9c 5; have f5 := frozen_at x9c 5; simp at p0 p1 p2 p3 p4 p5; go_simp
        try simp only [Act.put, List.getElem_toArray, List.getElem_cons_succ, List.getElem_cons_zero, List.setIfInBounds_toArray, List.set_cons_succ, List.set_cons_zero]
        refine hK.out _ _ ?_ (fun hHeld2 => ?_)
        · first | with_reducible exact hHeld | exact HKS.out _ KX | (refine HKS.out _ ?_; first | with_reducible exact K7 | with_reducible exact K6)
        clear hK K hHeld
        have hHeld := hHeld2
        clear hHeld2
        refine wpAnyH_done (by kernel_rfl) ?_ _
        have HQ : ∃ P9, wr.heap.size = P9 ∧ wr.heap.size ≤ P9 := ⟨_, rfl, by first | exact K7.size | exact K6.size | exact Nat.le_refl _⟩
        obtain ⟨P9, hP9, HPB⟩ := HQ
        clear p0 p1 p2 p3 p4 p5 f0 f1 f2 f3 f4 f5 x9c KZ
        try clear x9b
        try clear x9a
        clear q1 q2 q3 hHeld HKS HAS HFO HSC HWC HMC K0
        generalize (((((((w7).setCell ⟨wr.heap.size, 0, none⟩ (.int .i64 h.r.tr)).setCell ⟨wr.heap.size, 1, none⟩ (.int .i64 h.r.dy)).setCell ⟨wr.heap.size, 2, none⟩ (.int .i64 h.r.fr)).setCell ⟨wr.heap.size, 3, none⟩ (.int .i64 h.r.to)).setCell ⟨wr.heap.size, 4, none⟩ (.int .i64 h.d)).setCell ⟨wr.heap.size, 5, none⟩ (.int .i64 h.z)) = Wf at *
        rw [hP9] at XF ⊢
        clear hP9 K7 K6 L6 L7
        try clear KA0
        try clear KA6
        try clear KA7
        subst hrv
        have wbf : Wf.heap[n5]? = some (wyO c) := kept KX (lt_of HI.out.wb) HI.out.wb
        have t0 : Wf.cell? ⟨P9, 0, none⟩ = some (.int .i64 h.r.tr) := cell_at XF 0
        have t1 : Wf.cell? ⟨P9, 1, none⟩ = some (.int .i64 h.r.dy) := cell_at XF 1
        have t2 : Wf.cell? ⟨P9, 2, none⟩ = some (.int .i64 h.r.fr) := cell_at XF 2
        have t3 : Wf.cell? ⟨P9, 3, none⟩ = some (.int .i64 h.r.to) := cell_at XF 3
        have hn5 : n5 < wr.heap.size := lt_of HI.out.wb
        have HOF : Hid (some P9 ≠ (Value.slice ra p.length rc).ownBlock) := fun e => by
          have := (HI.out.row.lt P9 e.symm).2
          omega
        have hpl : p.length < 7 := by have := HI.out.len; omega
        have HBE : Hid (∀ W : World, _) := fun W => Tn.behind_val h.r h.d h.z c.s c.y (c.n : Int) W HHB.out.2.2.1 HHB.out.2.2.2.1 (by omega) (by have := HI.out.cn; omega)
        have HXF : Hid (_) := XF
        have HWF : Hid (_) := wbf
        clear XF wbf
        go_wp2_with (at_builtin; refine wpList_plain rfl (fun K hK => ?_); have KT : Below wr.heap.size wr (Wf.alloc (.cells #[.int .i64 h.r.tr, .int .i64 h.r.dy, .int .i64 h.r.fr, .int .i64 h.r.to] 37)) := KX.trans ((new_below Wf _).mono KX.size); have OA := own_kept HI.out.row (below_grown KT none) (fun q _ => by simp); refine wp_append_at _ _ 27 rfl w4.heap.size 37 i0 (lgV ⟨0, 0, 0, 0⟩) 4 32 Try.underlying27 hi hz0' hz1 hz2 rfl (by decide) (.slice ra p.length rc) p.length (rcells (ridesOf p)) rfl OA ⟨Wf.heap.size, 0, none⟩ 1 1 [.int .i64 h.r.tr, .int .i64 h.r.dy, .int .i64 h.r.fr, .int .i64 h.r.to] rfl rfl (four_new (heap_new Wf _)) (fun u hu => by simp at hu; rcases hu with rfl | rfl | rfl | rfl <;> rfl) (by unfold maxLen; omega) (by omega) (Nat.le_trans HI.out.low.size KT.size) ?_; intro v9 w9 O9 G9 hl9; have wb9 : w9.heap[n5]? = some (wyO c) := (G9.block n5 (lt_of (heap_old HWF.out _)) (fun e => HI.out.off e.symm)).trans (heap_old HWF.out _); have x9 : w9.heap[P9]? = some (hpO h) := (G9.block P9 (lt_of (heap_old HXF.out _)) HOF.out).trans (heap_old HXF.out _); have s0 : w9.cell? ⟨P9, 0, none⟩ = some (.int .i64 h.r.tr) := cell_at x9 0; have s1 : w9.cell? ⟨P9, 1, none⟩ = some (.int .i64 h.r.dy) := cell_at x9 1; have s2 : w9.cell? ⟨P9, 2, none⟩ = some (.int .i64 h.r.fr) := cell_at x9 2; have s3 : w9.cell? ⟨P9, 3, none⟩ = some (.int .i64 h.r.to) := cell_at x9 3; have s4 : w9.cell? ⟨P9, 4, none⟩ = some (.int .i64 h.d) := cell_at x9 4; have s5 : w9.cell? ⟨P9, 5, none⟩ = some (.int .i64 h.z) := cell_at x9 5; have y0 : w9.cell? ⟨n5, 0, none⟩ = some (.int .i64 c.s) := cell_at wb9 0; have y1 : w9.cell? ⟨n5, 1, none⟩ = some (.int .i64 c.y) := cell_at wb9 1; have y2 : w9.cell? ⟨n5, 2, none⟩ = some (.int .i64 (c.n : Int)) := cell_at wb9 2; refine hK _ _ ?_)
        refine (HBE.out _).mono ?_
        rintro e w10 ⟨rfl, L10⟩
        have wb10 := kept L10 (lt_of wb9) wb9
        have O10 := own_kept O9 (below_grown L10 none) (fun q _ => by simp)
        have LT : Below w4.heap.size w4 (Wf.alloc (.cells #[.int .i64 h.r.tr, .int .i64 h.r.dy, .int .i64 h.r.fr, .int .i64 h.r.to] 37)) := HI.out.low.trans (KT.mono HI.out.low.size)
        have L9 : Below w4.heap.size w4 w9 := LT.trans ⟨G9.os, G9.tape, G9.output, G9.size, fun q hq => G9.block q (Nat.lt_of_lt_of_le hq LT.size) (fun e => by have := (HI.out.row.lt q e.symm).1; omega)⟩
        have L10' : Below w4.heap.size w4 w10 := L9.trans (L10.mono L9.size)
        have hof : v9.ownBlock ≠ some n5 := by
          rcases hl9 with e | e
          · rw [e]; exact HI.out.off
          · rw [e]
            intro e2
            simp only [Option.some.injEq] at e2
            have := KT.size
            omega
        have y0 : w10.cell? ⟨n5, 0, none⟩ = some (.int .i64 c.s) := cell_at wb10 0
        have y1 : w10.cell? ⟨n5, 1, none⟩ = some (.int .i64 c.y) := cell_at wb10 1
        have y2 : w10.cell? ⟨n5, 2, none⟩ = some (.int .i64 (c.n : Int)) := cell_at wb10 2
        have g0 : w10.frozen? ⟨n5, 0, none⟩ = false := frozen_at wb10 0
        have g1 : w10.frozen? ⟨n5, 1, none⟩ = false := frozen_at wb10 1
        have g2 : w10.frozen? ⟨n5, 2, none⟩ = false := frozen_at wb10 2
        have HIN : Hid (RdI H v0 v tt w4 n5 m (p ++ [h]) ⟨h.r.to, h.z + 3, c.n + 1⟩ v9 (((w10.setCell ⟨n5, 0, none⟩ (.int .i64 h.r.to)).setCell ⟨n5, 1, none⟩ (.int .i64 (h.z + 3))).setCell ⟨n5, 2, none⟩ (.int .i64 ((c.n : Int) + 1)))) := by
          have B : w4.heap.size ≤ n5 := h5s
          have G3 : w10.grownBy (((w10.setCell ⟨n5, 0, none⟩ (.int .i64 h.r.to)).setCell ⟨n5, 1, none⟩ (.int .i64 (h.z + 3))).setCell ⟨n5, 2, none⟩ (.int .i64 ((c.n : Int) + 1))) (some n5) := grow3 w10 n5 _ _ _
          refine ⟨by have := HI.out.len; simp; omega, by have := HI.out.cn; simp; omega, HHB.out.1, HST.out.2.1, fun q hq G => ?_, ((L10'.setCell (p := ⟨n5, 0, none⟩) B _).setCell (p := ⟨n5, 1, none⟩) B _).setCell (p := ⟨n5, 2, none⟩) B _, set_three wb10, ?_, hof⟩
          · have := HI.out.go (h :: q) (by simp [hq]) (HST.out.2.2 q hq G)
            simpa using this
          · have O11 := own_kept O10 G3 (fun q hq e => hof (by rw [hq, ← e]))
            have e1 : rcells (ridesOf (p ++ [h])) = rcells (ridesOf p) ++ [.int .i64 h.r.tr, .int .i64 h.r.dy, .int .i64 h.r.fr, .int .i64 h.r.to] := by simp [ridesOf, rcells]
            rw [e1, List.length_append, List.length_singleton]
            exact O11
        clear s0 s1 s2 s3 s4 s5 t0 t1 t2 t3 x9 wb9 wb10 O9 O10 G9 L10 L10' L9 LT KT OA hl9 hof HBE HXF HWF HOF KX
        go_wp2
        go_roundw
        case rel => exact ⟨m, p ++ [h], ⟨h.r.to, h.z + 3, c.n + 1⟩, by go_num, HIN⟩
        case measure => simp [intOf]

end Rd
end Go.Proofs.Ytfoccmhmgdengaa
