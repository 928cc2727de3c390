/- A control's key, and the first control of each key, of the program. -/
import Derived.Test.YtbmfhdlbbaabgaaCeFstM
import Derived.Test.YtbmfhdlbbaabgaaCeDblI
namespace Go.Proofs.Ytbmfhdlbbaabgaa
namespace Hn
open Go.ChangeShapes Go.WideShapes Go.ChangeAt Go.RowKit Go.Joins
open Pk (new_below join_below cell_at heap_new frozen_at lt_of kept heap_old Drawn info_of Room own_form own_below)
set_option linter.unusedSimpArgs false
set_option linter.unusedVariables false

set_option maxHeartbeats 4000000 in
theorem key_val (x : Ct) (w : World) : Calls Try.prog 58 #[lgV x] w fun e w' => e = .returned (kyVK (kc x)) ∧ Below w.heap.size w w' := by
  have LF : Below w.heap.size w ((w.alloc (.cells #[.int .i64 x.dv, .int .i64 x.no, .int .i64 x.tk, .int .i64 x.tr, .int .i64 x.dy, .int .i64 x.sa] 37)).alloc (.cells #[.int .i64 x.dv, .int .i64 x.no] 87)) := join_below (new_below _ _) (new_below _ _)
  obtain ⟨-, n1, -⟩ := two_blocks w (.cells #[.int .i64 x.dv, .int .i64 x.no, .int .i64 x.tk, .int .i64 x.tr, .int .i64 x.dy, .int .i64 x.sa] 37) (.cells #[.int .i64 x.dv, .int .i64 x.no] 87)
  have e0 := cell_at n1 0
  have e1 := cell_at n1 1
  clear n1
  go_enter Try.func58, Try.ntmps58
  go_wp2
  exact bodyPost_ret (v := kyVK (kc x)) (by simp [results, Try.results58, go_sem, e0, e1, kc]) rfl ⟨rfl, LF⟩

theorem wf_kc {l : List Ct} (h : Wfs l) {x : Ct} (hx : x ∈ l) : WfKK (kc x) := by
  have := h x hx
  exact ⟨this.dv, this.no⟩

theorem mp_len {b : Nat} {f : KyK → Option Ct} {es : Array MapEntry} {ck : Nat} {w : World} (h : w.heap[b]? = some (.map es ck)) (ty : TypeId) : (Builtin.len_ #[78] ty #[.map (some b)]).run Try.prog w = .ok (goInt es.size) w :=
  run_len_map w 78 ty b es ck (by kernel_rfl) h

theorem kept_cell {w w1 : World} {b i : Nat} {v : Value} (L : Below w.heap.size w w1) (h : w.cell? ⟨b, i, none⟩ = some v) : w1.cell? ⟨b, i, none⟩ = some v := by
  refine (L.cell (p := ⟨b, i, none⟩) ?_).trans h
  show b < w.heap.size
  apply Classical.byContradiction
  intro hn
  have e : w.heap[b]? = none := Array.getElem?_eq_none (by omega)
  simp [World.cell?, e] at h

set_option maxRecDepth 100000 in
set_option maxHeartbeats 8000000 in
theorem implFst_val (a : Option Addr) (l : List Ct) (cap : Nat) (w : World) (hz : l.length ≤ 4194304) (hwf : Wfs l) (I : Controls w a l) :
    Calls Try.prog 54 #[.slice a l.length cap] w fun e w' => ∃ es ck, e = .returned (.map (some w.heap.size)) ∧ MpK w.heap.size (lookC (delF [] l l.length)) es ck w' ∧ es.size = (delF [] l l.length).length ∧ Below w.heap.size w w' := by
  have HWF : Hid (Wfs l) := hwf
  have HK : Hid (∀ (x : Ct) (W : World), _) := fun x W => key_val x W
  have L0 := new_below w (.map #[] 0)
  have M0 : MpK w.heap.size (lookC (delF [] l 0)) #[] 0 (w.alloc (.map #[] 0)) := mp_newK w
  have hsz : w.heap.size + 1 ≤ (w.alloc (.map #[] 0)).heap.size := Nat.le_of_eq (Array.size_push ..).symm
  have hmk : ∀ w : World, (Instr.makeMap 78 none).run Try.prog w = .ok (.map (some w.heap.size)) (w.alloc (.map #[] 0)) := fun w => by simp [Instr.makeMap, go_sem]
  clear hwf
  go_enter Try.func54, Try.ntmps54
  go_wp2
  go_loopw [11] (fun i wr => ∃ (k : Nat) (es : Array MapEntry) (ck : Nat), k ≤ l.length ∧ i = .int .i64 k ∧ Below w.heap.size w wr ∧ w.heap.size + 1 ≤ wr.heap.size ∧ Hid (MpK w.heap.size (lookC (delF [] l k)) es ck wr ∧ es.size = (delF [] l k).length)) (fun i _ => l.length - (intOf i).toNat)
  case atStart => exact ⟨0, #[], 0, by omega, rfl, L0, hsz, M0, rfl⟩
  case round =>
    clear L0 M0 hsz
    obtain ⟨k, es, ck, hk, rfl, LR, hlo, HM⟩ := hrel
    by_cases hkn : k < l.length
    · obtain ⟨b, u, rfl, hltb, hc0, hc1, hc2, hc3, hc4, hc5⟩ := (I.on LR).at k hkn
      have HWK : Hid (WfKK (kc l[k])) := wf_kc HWF.out (List.getElem_mem hkn)
      have HST : Hid (delF [] l (k + 1) = putC (delF [] l k) l[k]) := delF_step hkn
      have HAS : Hid (AscC (delF [] l k)) := ascC_fold _ List.Pairwise.nil
      have HLN : Hid ((delF [] l k).length ≤ 600) := delF_len l (by simp) k
      generalize l[k] = x at *
      generalize delF [] l k = S at *
      have NX := new_below wr (.cells #[.int .i64 x.dv, .int .i64 x.no, .int .i64 x.tk, .int .i64 x.tr, .int .i64 x.dy, .int .i64 x.sa] 37)
      have LX := join_below LR NX
      obtain ⟨MR, hes⟩ := HM.out
      have hbX : (wr.alloc (.cells #[.int .i64 x.dv, .int .i64 x.no, .int .i64 x.tk, .int .i64 x.tr, .int .i64 x.dy, .int .i64 x.sa] 37)).heap[w.heap.size]? = some (.map es ck) := (NX.block _ (lt_of MR.blk)).trans MR.blk
      have HNX : Hid ((wr.alloc (.cells #[.int .i64 x.dv, .int .i64 x.no, .int .i64 x.tk, .int .i64 x.tr, .int .i64 x.dy, .int .i64 x.sa] 37)).heap[wr.heap.size]? = some (.cells #[.int .i64 x.dv, .int .i64 x.no, .int .i64 x.tk, .int .i64 x.tr, .int .i64 x.dy, .int .i64 x.sa] 37)) := heap_new _ _
      cases hf : lookC S (kc x) with
      | some y =>
        have HF : Hid (delF [] l (k + 1) = S) := HST.out.trans (fst_there HAS.out hf)
        have HLK := MR.hit (kc x) HWK.out hf
        clear HST HAS HLN HWK
        go_wp2_with fail
        refine (HK.out x _).mono ?_
        rintro e w2 ⟨rfl, L2⟩
        have hb2 : w2.heap[w.heap.size]? = some (.map es ck) := (L2.block _ (lt_of hbX)).trans hbX
        have hl2 := HLK w2 hb2
        have L2' := join_below LX L2
        have N3 := new_below w2 (.cells #[.int .i64 y.dv, .int .i64 y.no, .int .i64 y.tk, .int .i64 y.tr, .int .i64 y.dy, .int .i64 y.sa] 37)
        have L3 := join_below L2' N3
        have M3 : MpK w.heap.size (lookC S) es ck (w2.alloc (.cells #[.int .i64 y.dv, .int .i64 y.no, .int .i64 y.tk, .int .i64 y.tr, .int .i64 y.dy, .int .i64 y.sa] 37)) := MR.on (((N3.block _ (lt_of hb2)).trans hb2).trans MR.blk.symm)
        have hlo3 : w.heap.size + 1 ≤ (w2.alloc (.cells #[.int .i64 y.dv, .int .i64 y.no, .int .i64 y.tk, .int .i64 y.tr, .int .i64 y.dy, .int .i64 y.sa] 37)).heap.size := by have := lt_of M3.blk; omega
        have HF2 : Hid (MpK w.heap.size (lookC (delF [] l (k + 1))) es ck (w2.alloc (.cells #[.int .i64 y.dv, .int .i64 y.no, .int .i64 y.tk, .int .i64 y.tr, .int .i64 y.dy, .int .i64 y.sa] 37)) ∧ es.size = (delF [] l (k + 1)).length) := by rw [HF.out]; exact ⟨M3, hes⟩
        clear hb2 L2 L2' N3 M3 HLK HF LX NX hbX HNX HM MR hes hf LR
        go_wp2
        go_roundw
        case rel => exact ⟨k + 1, es, ck, by omega, by go_num, L3, hlo3, HF2⟩
        case measure => simp [intOf]; omega
      | none =>
        have HLK := (MR.miss (kc x) HWK.out hf).1
        obtain ⟨es2, ck2, hs2, HUP0⟩ := (MR.miss (kc x) HWK.out hf).2 x
        have HUP : Hid (∀ w2 : World, _ → _) := HUP0
        clear HUP0
        go_wp2_with fail
        refine (HK.out x _).mono ?_
        rintro e w2 ⟨rfl, L2⟩
        have hb2 : w2.heap[w.heap.size]? = some (.map es ck) := (L2.block _ (lt_of hbX)).trans hbX
        have hx2 : w2.heap[wr.heap.size]? = some (.cells #[.int .i64 x.dv, .int .i64 x.no, .int .i64 x.tk, .int .i64 x.tr, .int .i64 x.dy, .int .i64 x.sa] 37) := (L2.block _ (lt_of HNX.out)).trans HNX.out
        have hl2 := HLK w2 hb2
        have L2' := join_below LX L2
        have N3 := new_below w2 (.cells #[.int .i64 0, .int .i64 0, .int .i64 0, .int .i64 0, .int .i64 0, .int .i64 0] 37)
        have L3 := join_below L2' N3
        have hb3 : (w2.alloc (.cells #[.int .i64 0, .int .i64 0, .int .i64 0, .int .i64 0, .int .i64 0, .int .i64 0] 37)).heap[w.heap.size]? = some (.map es ck) := (N3.block _ (lt_of hb2)).trans hb2
        have hx3 : (w2.alloc (.cells #[.int .i64 0, .int .i64 0, .int .i64 0, .int .i64 0, .int .i64 0, .int .i64 0] 37)).heap[wr.heap.size]? = some (.cells #[.int .i64 x.dv, .int .i64 x.no, .int .i64 x.tk, .int .i64 x.tr, .int .i64 x.dy, .int .i64 x.sa] 37) := (N3.block _ (lt_of hx2)).trans hx2
        have hln := mp_len (f := lookC S) hb3
        have M3 : MpK w.heap.size (lookC S) es ck (w2.alloc (.cells #[.int .i64 0, .int .i64 0, .int .i64 0, .int .i64 0, .int .i64 0, .int .i64 0] 37)) := MR.on (hb3.trans MR.blk.symm)
        clear hb2 hx2 L2 L2' N3 HLK LX NX hbX HNX HM MR LR
        by_cases h6 : S.length < 600
        · have d6 : decide ((es.size : Int) < 600) = true := by rw [hes]; simp; omega
          obtain ⟨q1, q2⟩ := fst_new HAS.out hf h6
          have HFI : Hid (∀ W : World, W.heap[w.heap.size]? = some (.map es ck) → MpK w.heap.size (lookC (delF [] l (k + 1))) es2 ck2 (Go.ChangeMaps.setBlock W w.heap.size (.map es2 ck2)) ∧ es2.size = (delF [] l (k + 1)).length) := fun W hW => by rw [HST.out, q1, q2, hs2, hes]; exact ⟨(HUP.out W hW).2, rfl⟩
          clear q1 q2 HST HAS HLN HWK hes hs2 hf h6 M3
          have c0 := cell_at hx3 0
          have c1 := cell_at hx3 1
          have c2 := cell_at hx3 2
          have c3 := cell_at hx3 3
          have c4 := cell_at hx3 4
          have c5 := cell_at hx3 5
          clear hx3
          go_wp2
          generalize w2.alloc (.cells #[.int .i64 0, .int .i64 0, .int .i64 0, .int .i64 0, .int .i64 0, .int .i64 0] 37) = W3 at *
          have hB3 : Hid (W3.heap[w.heap.size]? = some (.map es ck)) := hb3
          clear hb3 hln hl2 hc0 hc1 hc2 hc3 hc4 hc5 d6
          have HCE : Hid (∀ W' i v, W3.cell? ⟨wr.heap.size, i, none⟩ = some v → Below W3.heap.size W3 W' → W'.cell? ⟨wr.heap.size, i, none⟩ = some v) := fun W' i v hv L => kept_cell L hv
          have HSB : Hid (∀ (W : World) (i : Nat) (v : Value), W.heap[w.heap.size]? = some (.map es ck) → W.cell? ⟨wr.heap.size, i, none⟩ = some v → (Go.ChangeMaps.setBlock W w.heap.size (.map es2 ck2)).cell? ⟨wr.heap.size, i, none⟩ = some v) := fun W i v hb h => (World.cell?_of_block (sb_other hb (by show wr.heap.size ≠ _; omega))).trans h
          go_region_held3 (fun w' => w'.cell? ⟨wr.heap.size, 0, none⟩ = some (.int .i64 x.dv) ∧ w'.cell? ⟨wr.heap.size, 1, none⟩ = some (.int .i64 x.no) ∧ w'.cell? ⟨wr.heap.size, 2, none⟩ = some (.int .i64 x.tk) ∧ w'.cell? ⟨wr.heap.size, 3, none⟩ = some (.int .i64 x.tr) ∧ w'.cell? ⟨wr.heap.size, 4, none⟩ = some (.int .i64 x.dy) ∧ w'.cell? ⟨wr.heap.size, 5, none⟩ = some (.int .i64 x.sa)) (go_keep) ((go_at_call 58; (with_reducible refine (HK.out _ _).mono ?_); rintro e w4 ⟨rfl, L4⟩; have K4 : Below W3.heap.size W3 w4 := (by first | exact L4 | exact ((Below.refl _ _).drew).trans L4); have p0 := HCE.out _ _ _ c0 K4; have p1 := HCE.out _ _ _ c1 K4; have p2 := HCE.out _ _ _ c2 K4; have p3 := HCE.out _ _ _ c3 K4; have p4 := HCE.out _ _ _ c4 K4; have p5 := HCE.out _ _ _ c5 K4; have hb4 : Hid (w4.heap[w.heap.size]? = some (.map es ck)) := (K4.block _ (lt_of hB3.out)).trans hB3.out; have u4 := (HUP.out w4 hb4.out).1; have u5 := (HUP.out w4.drew hb4.out).1; have r0 := HSB.out w4 _ _ hb4.out p0; have r1 := HSB.out w4 _ _ hb4.out p1; have r2 := HSB.out w4 _ _ hb4.out p2; have r3 := HSB.out w4 _ _ hb4.out p3; have r4 := HSB.out w4 _ _ hb4.out p4; have r5 := HSB.out w4 _ _ hb4.out p5))
          all_goals
            go_wp2
            go_roundw
            case rel => exact ⟨k + 1, es2, ck2, by omega, by go_num, by first | exact sb_below (join_below L3 K4) hb4.out (Nat.le_refl _) | exact sb_below (join_below L3 K4).drew hb4.out (Nat.le_refl _), by first | (rw [sb_size]; have := lt_of hb4.out; omega) | (rw [sb_size]; have := lt_of hb4.out; show _ ≤ w4.heap.size; omega), by first | exact HFI.out _ hb4.out⟩
            case measure => simp [intOf]; omega
        · have d6 : decide ((es.size : Int) < 600) = false := by rw [hes]; simp; omega
          have HF : Hid (delF [] l (k + 1) = S) := HST.out.trans (fst_full (by omega))
          have hlo3 : w.heap.size + 1 ≤ (w2.alloc (.cells #[.int .i64 0, .int .i64 0, .int .i64 0, .int .i64 0, .int .i64 0, .int .i64 0] 37)).heap.size := by have := lt_of M3.blk; omega
          have HF2 : Hid (MpK w.heap.size (lookC (delF [] l (k + 1))) es ck (w2.alloc (.cells #[.int .i64 0, .int .i64 0, .int .i64 0, .int .i64 0, .int .i64 0, .int .i64 0] 37)) ∧ es.size = (delF [] l (k + 1)).length) := by rw [HF.out]; exact ⟨M3, hes⟩
          clear HST HAS HLN HWK hes hs2 hf h6 M3 HF HUP hb3 hx3
          go_wp2
          go_roundw
          case rel => exact ⟨k + 1, es, ck, by omega, by go_num, L3, hlo3, HF2⟩
          case measure => simp [intOf]; omega
    · obtain rfl : k = l.length := by omega
      go_wp2
      go_ret
      exact ⟨es, ck, rfl, HM.out.1, HM.out.2, LR⟩

end Hn
end Go.Proofs.Ytbmfhdlbbaabgaa
