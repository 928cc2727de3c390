/- The draw of a right ticket: some ticket with one to three legs in a row of its own. -/
import Derived.Test.YtbfgfedblnldcaaDoorCurDec
import Derived.Test.YtbfgfedblnldcaaDoorCurKb
import Derived.Test.YtbfgfedblnldcaaDoorGtLegs
import Derived.Deep.RegionHeld3
import Derived.Deep.Cut
import Derived.Deep.CutRange
namespace Go.Proofs.YtbfgfedblnldcaaDoor
namespace Cur
open Go.ChangeShapes Go.WideShapes Go.ChangeAt Go.RowKit
open Pk (own_form new_below join_below heap_new lt_of kept cell_at heap_old frozen_at info_of)
open Tk (Lg Hd tkV tkB)
open Gt (lcells)
set_option linter.unusedSimpArgs false
set_option linter.unusedVariables false

theorem tk_set {w : World} {c i : Nat} {cs : Array Value} {t : TypeId} {f : Nat × Nat} (h : w.heap[c]? = some (.cells cs t f)) (u : Value) : (w.setCell ⟨c, i, none⟩ u).heap[c]? = some (.cells (cs.setIfInBounds i u) t f) := by
  unfold World.setCell
  simp [Array.getElem?_modify, h]

theorem add_any (b o i : Nat) : Addr.add ⟨b, o, none⟩ i = ⟨b, o + i, none⟩ := by simp [Addr.add]

theorem leg_at {w : World} {b : Nat} {p : Lg} {t : TypeId} {f : Nat × Nat} (h : w.heap[b]? = some (.cells #[.int .i64 p.tr, .int .i64 p.dy, .int .i64 p.fr, .int .i64 p.to, .int .i64 p.co, .int .i64 p.se] t f)) : ∀ j u, (Gt.lc1 p)[j]? = some u → w.cell? (Addr.add ⟨b, 0, none⟩ j) = some u := by
  intro j u hu
  rw [add_any, Nat.zero_add, cell_at h j, ← hu]
  match j with
  | 0 => rfl
  | 1 => rfl
  | 2 => rfl
  | 3 => rfl
  | 4 => rfl
  | 5 => rfl
  | j + 6 => simp [Gt.lc1]

theorem is_below {W0 : World} {a : Option Addr} {n cap c B : Nat} {w w1 : World} (C : Is W0 a n cap c w) (L : Below B w w1) (hc : c < B) (hB : W0.heap.size ≤ B) : Is W0 a n cap c w1 := by
  refine ⟨C.below.trans (L.mono hB), C.ge, Nat.lt_of_lt_of_le C.lt L.size, C.len, C.code, ?_, ?_, ?_, ?_, ?_⟩
  · rw [L.cell (p := ⟨c, 0, none⟩) hc]; exact C.cb
  · obtain ⟨i, h1, h2⟩ := C.ci
    exact ⟨i, h1, by rw [L.cell (p := ⟨c, 1, none⟩) hc]; exact h2⟩
  · obtain ⟨h0, h2⟩ := C.ch
    exact ⟨h0, by rw [L.cell (p := ⟨c, 2, none⟩) hc]; exact h2⟩
  · rw [L.frozen (p := ⟨c, 1, none⟩) hc]; exact C.fi
  · rw [L.frozen (p := ⟨c, 2, none⟩) hc]; exact C.fh

theorem own_kb {w w1 : World} {base e size n c : Nat} {v : Value} {xs : List Value} (h : w.ownsRow base e size v n xs) (K : Kb c w w1) (hc : c < base) : w1.ownsRow base e size v n xs := by
  obtain ⟨h1, h2⟩ := h
  refine ⟨h1, ?_⟩
  rcases h2 with h2 | ⟨g, cap, cur, hv, hg, hh, hr⟩
  · exact Or.inl h2
  · exact Or.inr ⟨g, cap, cur, hv, hg, K.at (by omega) hh, hr⟩

theorem own_else {w : World} {base e size n P i : Nat} {v u : Value} {xs : List Value} (h : w.ownsRow base e size v n xs) (hne : v.ownBlock ≠ some P) : (w.setCell ⟨P, i, none⟩ u).ownsRow base e size v n xs := by
  obtain ⟨h1, h2⟩ := h
  refine ⟨h1, ?_⟩
  rcases h2 with h2 | ⟨g, cap, cur, hv, hg, hh, hr⟩
  · exact Or.inl h2
  · refine Or.inr ⟨g, cap, cur, hv, hg, ?_, hr⟩
    rw [Below.heap_setCell w ⟨P, i, none⟩ u g (by show g ≠ P; intro e; rw [hv, e] at hne; exact hne rfl)]
    exact hh

theorem set6_heap {w : World} {P : Nat} {a0 a1 a2 a3 a4 a5 : Value} {t : TypeId} (h : w.heap[P]? = some (.cells #[a0, a1, a2, a3, a4, a5] t (0, 0))) (v0 v1 v2 v3 v4 v5 : Value) : ((((((w.setCell ⟨P, 0, none⟩ v0).setCell ⟨P, 1, none⟩ v1).setCell ⟨P, 2, none⟩ v2).setCell ⟨P, 3, none⟩ v3).setCell ⟨P, 4, none⟩ v4).setCell ⟨P, 5, none⟩ v5).heap[P]? = some (.cells #[v0, v1, v2, v3, v4, v5] t (0, 0)) := by
  unfold World.setCell
  simp [Array.getElem?_modify, h]

/-- The names that are drawn. -/
abbrev nm5 : Obj := .cells #[.string ⟨#[]⟩, .string ⟨#[65, 32, 80, 101, 114, 115, 111, 110]⟩, .string ⟨#[116, 119, 111, 32, 32, 98, 108, 97, 110, 107, 115]⟩, .string ⟨#[120]⟩, .string ⟨#[32]⟩] 9

set_option maxRecDepth 100000 in
set_option maxHeartbeats 4000000 in
theorem right_any {W0 : World} {a : Option Addr} {n cap c : Nat} {w : World} (C : Is W0 a n cap c w) :
    Calls Tryd.prog 27 #[.pointer (some ⟨c, 0, none⟩)] w fun e w' => (∃ (t : Hd) (nm : ByteArray) (va : Option Addr) (vc : Nat) (ls : List Lg), e = .returned (tkV t nm va ls.length vc) ∧ nm.size ≤ 40 ∧ 1 ≤ ls.length ∧ ls.length ≤ 3 ∧ w'.ownsRow w.heap.size 40 6 (.slice va ls.length vc) ls.length (lcells ls)) ∧ Is W0 a n cap c w' ∧ Kb c w w' := by
  have hlt := C.lt
  have C0 := C.alloc (tkB ⟨0, 0, 0, 0, 0⟩ ⟨#[]⟩ none 0 0 26)
  have m0 := heap_new w (tkB ⟨0, 0, 0, 0, 0⟩ ⟨#[]⟩ none 0 0 26)
  have K0 : Kb c w (w.alloc (tkB ⟨0, 0, 0, 0, 0⟩ ⟨#[]⟩ none 0 0 26)) := (Kb.refl c w).alloc _
  have hRc : w.heap.size ≠ c := by omega
  go_enter Tryd.func27, Tryd.ntmps27
  go_wp2_with fail
  refine (below_any C0 9999).mono ?_
  generalize w.alloc (tkB ⟨0, 0, 0, 0, 0⟩ ⟨#[]⟩ none 0 0 26) = V0 at *
  rintro e w1 ⟨⟨id, rfl, hid0, hid1⟩, C1, M1⟩
  have hid2 := hid1 (by omega)
  have m1 : w1.heap[w.heap.size]? = _ := (M1.block _ hRc).trans m0
  have K1 := K0.trans (Kb.moved M1)
  have C1a := C1.alloc nm5
  have RW : RowOfS (fun z => z.size ≤ 40) (w1.alloc nm5) w1.heap.size 5 := rowOfS_new (fun z => z.size ≤ 40) w1 [⟨#[]⟩, ⟨#[65, 32, 80, 101, 114, 115, 111, 110]⟩, ⟨#[116, 119, 111, 32, 32, 98, 108, 97, 110, 107, 115]⟩, ⟨#[120]⟩, ⟨#[32]⟩] 9 (by
    intro z hz
    simp at hz
    rcases hz with rfl | rfl | rfl | rfl | rfl <;> decide)
  have hwc : w1.heap.size ≠ c := by have := C1.lt; omega
  have HPK : Hid (∀ _ : Unit, _) := fun _ => pick_any C1a (fun z => z.size ≤ 40) w1.heap.size 5 5 hwc (by omega) (by omega) RW
  have m1a := heap_old m1 nm5
  have K1a := K1.alloc nm5
  clear hid1 m0 K0 M1 C0 C1 m1 K1 C1a RW
  go_wp2_with fail
  refine (HPK.out ()).mono ?_
  generalize w1.alloc nm5 = V1 at *
  rintro e w2 ⟨⟨nm, rfl, hnm⟩, C2, M2⟩
  have m2 : w2.heap[w.heap.size]? = _ := (M2.block _ hRc).trans m1a
  have K2 := K1a.trans (Kb.moved M2)
  clear m1a K1a M2 HPK
  go_wp2_with fail
  refine (below_any C2 2).mono ?_
  rintro e w3 ⟨⟨cl, rfl, hcl0, hcl1⟩, C3, M3⟩
  have hcl2 := hcl1 (by omega)
  have m3 : w3.heap[w.heap.size]? = _ := (M3.block _ hRc).trans m2
  have K3 := K2.trans (Kb.moved M3)
  clear m2 K2 M3 C2 hcl1
  go_wp2_with fail
  refine (below_any C3 20000).mono ?_
  rintro e w4 ⟨⟨pr, rfl, hpr0, hpr1⟩, C4, M4⟩
  have hpr2 := hpr1 (by omega)
  have m4 : w4.heap[w.heap.size]? = _ := (M4.block _ hRc).trans m3
  have K4 := K3.trans (Kb.moved M4)
  clear m3 K3 M4 C3 hpr1
  go_wp2_with fail
  refine (below_any C4 400).mono ?_
  rintro e w5 ⟨⟨fi, rfl, hfi0, hfi1⟩, C5, M5⟩
  have hfi2 := hfi1 (by omega)
  have m5 : w5.heap[w.heap.size]? = _ := (M5.block _ hRc).trans m4
  have K5 := K4.trans (Kb.moved M5)
  clear m4 K4 M5 C4 hfi1
  have C6 := C5.alloc (tkB ⟨1 + id, 1 + cl, pr, fi, 0⟩ nm none 0 0 26)
  have m6 := heap_old m5 (tkB ⟨1 + id, 1 + cl, pr, fi, 0⟩ nm none 0 0 26)
  have x6 := heap_new w5 (tkB ⟨1 + id, 1 + cl, pr, fi, 0⟩ nm none 0 0 26)
  have K6 := K5.alloc (tkB ⟨1 + id, 1 + cl, pr, fi, 0⟩ nm none 0 0 26)
  have hQc : w5.heap.size ≠ c := by have := C5.lt; omega
  have hQR : w5.heap.size ≠ w.heap.size := by have := lt_of m5; omega
  have hQw : w.heap.size ≤ w5.heap.size := by have := lt_of m5; omega
  have hQW : W0.heap.size ≤ w5.heap.size := C5.below.size
  clear m5 K5 C5
  go_wp2
  generalize w5.alloc (tkB ⟨1 + id, 1 + cl, pr, fi, 0⟩ nm none 0 0 26) = V6 at *
  generalize hQQ : w5.heap.size = Q at *
  have HB4 : Hid (∀ wx, Is W0 a n cap c wx → Calls Tryd.prog 31 #[.pointer (some ⟨c, 0, none⟩), .int .i64 4] wx fun e w' => (∃ x : Int, e = .returned (.int .i64 x) ∧ 0 ≤ x ∧ (0 < (4 : Int) → x < 4)) ∧ Is W0 a n cap c w' ∧ Moved c wx w') := fun wx h => below_any h 4
  have t4 : V6.cell? ⟨Q, 4, none⟩ = some (.int .i64 fi) := cell_at x6 4
  have t5 : V6.cell? ⟨Q, 5, none⟩ = some (.int .i64 0) := cell_at x6 5
  have g5 : V6.frozen? ⟨Q, 5, none⟩ = false := frozen_at x6 5
  go_cut [] from 7 (fun wc => ∃ la : Int, 0 ≤ la ∧ la < 4 ∧ Is W0 a n cap c wc ∧ wc.heap[Q]? = some (tkB ⟨1 + id, 1 + cl, pr, fi, fi + la⟩ nm none 0 0 26) ∧ wc.heap[w.heap.size]? = some (tkB ⟨0, 0, 0, 0, 0⟩ ⟨#[]⟩ none 0 0 26) ∧ Kb c w wc)
  case first =>
    go_region_held3 (fun w' => w'.cell? ⟨Q, 4, none⟩ = some (.int .i64 fi)) (go_keep) (first
      | (go_at_call 31; refine (HB4.out _ ?_).mono ?_; (first | exact C6 | exact C6.drewN 1); rintro e v7 ⟨⟨la, rfl, hla0, hla1⟩, C7, M7⟩; have hla2 := hla1 (by omega); have x7 : v7.heap[Q]? = _ := (M7.block _ hQc).trans x6; have m7 : v7.heap[w.heap.size]? = _ := (M7.block _ hRc).trans m6; have K7 : Kb c w v7 := K6.trans (Kb.moved ⟨M7.size, M7.block⟩); have u4 : v7.cell? ⟨Q, 4, none⟩ = some (.int .i64 fi) := cell_at x7 4; have u5 : v7.cell? ⟨Q, 5, none⟩ = some (.int .i64 0) := cell_at x7 5; have h5 : v7.frozen? ⟨Q, 5, none⟩ = false := frozen_at x7 5; have hw2 : IntKind.i64.wrap (fi + la) = fi + la := (by rw [IntKind.wrap_i64]; omega); have z4 : (v7.setCell ⟨Q, 5, none⟩ (.int .i64 (fi + la))).cell? ⟨Q, 4, none⟩ = some (.int .i64 fi) := (by rw [World.cell?_setCell_other _ _ _ _ (by simp)]; exact u4)))
    all_goals
      have C8 := C7.set Q 5 (.int .i64 (fi + la)) hQc hQW
      have x8 : (v7.setCell ⟨Q, 5, none⟩ (.int .i64 (fi + la))).heap[Q]? = some (tkB ⟨1 + id, 1 + cl, pr, fi, fi + la⟩ nm none 0 0 26) := tk_set x7 _
      have m8 : (v7.setCell ⟨Q, 5, none⟩ (.int .i64 (fi + la))).heap[w.heap.size]? = _ := (Below.heap_setCell _ _ _ _ (fun h => hQR h.symm)).trans m7
      have K8 := K7.set Q 5 (.int .i64 (fi + la)) hQw
      go_wp2
      go_meet
      case rel => exact ⟨la, hla0, hla2, C8, x8, m8, K8⟩
  case rest =>
    obtain ⟨la, hla0, hla2, C8, x8, m8, K8⟩ := hcut
    obtain ⟨V8, hV8⟩ : ∃ V, V = wc := ⟨_, rfl⟩
    subst hV8
    clear t4 t5 g5 x6 m6 K6 C6 HB4
    have HCW : Hid (c < w.heap.size ∧ W0.heap.size ≤ w.heap.size) := ⟨hlt, C.below.size⟩
    go_wp2_with fail
    refine (below_any C8 3).mono ?_
    rintro e w9 ⟨⟨mm, rfl, hmm0, hmm1⟩, C9, M9⟩
    have hmm2 := hmm1 (by omega)
    obtain ⟨m9, rfl⟩ := Int.eq_ofNat_of_zero_le hmm0
    have x9 : w9.heap[Q]? = _ := (M9.block _ hQc).trans x8
    have y9 : w9.heap[w.heap.size]? = _ := (M9.block _ hRc).trans m8
    have K9 := K8.trans (Kb.moved M9)
    clear x8 m8 K8 C8 M9 hmm1
    go_wp2
    go_loopw [5] (fun i wr => ∃ (k : Nat) (ls : List Lg) (va : Option Addr) (vc : Nat), k ≤ 1 + m9 ∧ i = .int .i64 k ∧ ls.length = k ∧ Is W0 a n cap c wr ∧ Kb c w wr ∧ wr.heap[w.heap.size]? = some (tkB ⟨0, 0, 0, 0, 0⟩ ⟨#[]⟩ none 0 0 26) ∧ wr.heap[Q]? = some (tkB ⟨1 + id, 1 + cl, pr, fi, fi + la⟩ nm va k vc 26) ∧ wr.ownsRow w.heap.size 40 6 (.slice va k vc) k (lcells ls)) (fun i _ => 1 + m9 - (intOf i).toNat)
    case atStart => exact ⟨0, [], none, 0, by omega, rfl, rfl, C9, K9, y9, x9, ⟨rfl, Or.inl ⟨rfl, rfl⟩⟩⟩
    case round =>
      clear C9 K9 y9 x9
      obtain ⟨k, ls, va, vc, hk, rfl, hlk, CR, KR, yR, xR, OR⟩ := hrel
      by_cases hkn : k < 1 + m9
      · have hkd : decide ((k : Int) < 1 + (m9 : Int)) = true := decide_eq_true (by omega)
        have hQlt := lt_of xR
        have hcw : c < w.heap.size := HCW.out.1
        have hW0w : W0.heap.size ≤ w.heap.size := HCW.out.2
        have t4 : wr.cell? ⟨Q, 4, none⟩ = some (.int .i64 fi) := cell_at xR 4
        have t5 : wr.cell? ⟨Q, 5, none⟩ = some (.int .i64 (fi + la)) := cell_at xR 5
        have HS : Hid (∀ W, Kb c wr W → W.cell? ⟨Q, 4, none⟩ = some (.int .i64 fi) ∧ W.cell? ⟨Q, 5, none⟩ = some (.int .i64 (fi + la))) := fun W K => ⟨cell_at (K.at hQc xR) 4, cell_at (K.at hQc xR) 5⟩
        have hwa : IntKind.i64.wrap (fi + la - fi) = la := by rw [IntKind.wrap_i64]; omega
        have hwc : wrap64 (fi + la - fi) = la := by unfold wrap64; omega
        have hwd : IntKind.i64.wrap la = la := by rw [IntKind.wrap_i64]; omega
        have hwe : wrap64 la = la := by unfold wrap64; omega
        have hwb : IntKind.i64.wrap (la + 1) = la + 1 := by rw [IntKind.wrap_i64]; omega
        have hwf : wrap64 (la + 1) = la + 1 := by unfold wrap64; omega
        have HLK : Hid (ls.length = k) := hlk
        have HKN : Hid (k < 1 + m9) := hkn
        clear hlk hkn hk
        go_wp2
        go_cut [6] from 30 to 71 (fun p wc => ∃ (X : Nat) (d1 d2 d3 d4 : Int), p = .pointer (some ⟨X, 0, none⟩) ∧ wr.heap.size ≤ X ∧ wc.heap[X]? = some (.cells #[.int .i64 d1, .int .i64 d2, .int .i64 d3, .int .i64 d4, .int .i64 0, .int .i64 0] 40) ∧ Is W0 a n cap c wc ∧ Kb c wr wc)
        case first =>
          have K0 : Kb c wr (World.drew wr) := (Kb.refl c wr).drew
          have C0 : Is W0 a n cap c (World.drew wr) := CR.drewN 1
          refine wp_region_held_drew (S := (fun w' => w'.cell? ⟨Q, 4, none⟩ = some (.int .i64 fi) ∧ w'.cell? ⟨Q, 5, none⟩ = some (.int .i64 (fi + la)))) (by kernel_rfl) ?_ (fun hHeld => ?_)
          · exact HS.out _ K0
          refine wpAnyH_take (i := 0) (v := .pointer (some ⟨c, 0, none⟩)) rfl (by kernel_rfl) (by kernel_rfl) (by kernel_rfl) (fun _ _ _ h => h) (Or.inl ⟨by kernel_rfl, fun w hSw => by first | (go_simp; done) | (dsimp only at hSw; obtain ⟨s0, s1⟩ := hSw; go_simp; done) | rfl⟩) (by assumption) ?_
          simp only [Act.put, List.getElem_toArray, List.getElem_cons_succ, List.getElem_cons_zero, List.setIfInBounds_toArray, List.set_cons_succ, List.set_cons_zero]
          refine wpAnyH_take (i := 3) (v := .pointer (some ⟨Q, 4, none⟩)) rfl (by kernel_rfl) (by kernel_rfl) (by kernel_rfl) (fun _ _ _ h => h) (Or.inl ⟨by kernel_rfl, fun w hSw => by first | (go_simp; done) | (dsimp only at hSw; obtain ⟨s0, s1⟩ := hSw; go_simp; done) | rfl⟩) (by assumption) ?_
          simp only [Act.put, List.getElem_toArray, List.getElem_cons_succ, List.getElem_cons_zero, List.setIfInBounds_toArray, List.set_cons_succ, List.set_cons_zero]
          refine wpAnyH_take (i := 4) (v := .int .i64 fi) rfl (by kernel_rfl) (by kernel_rfl) (by kernel_rfl) (fun _ _ _ h => h) (Or.inl ⟨by kernel_rfl, fun w hSw => by first | (go_simp; done) | (dsimp only at hSw; obtain ⟨s0, s1⟩ := hSw; go_simp; done) | rfl⟩) (by assumption) ?_
          simp only [Act.put, List.getElem_toArray, List.getElem_cons_succ, List.getElem_cons_zero, List.setIfInBounds_toArray, List.set_cons_succ, List.set_cons_zero]
          refine wpAnyH_take (i := 5) (v := .pointer (some ⟨c, 0, none⟩)) rfl (by kernel_rfl) (by kernel_rfl) (by kernel_rfl) (fun _ _ _ h => h) (Or.inl ⟨by kernel_rfl, fun w hSw => by first | (go_simp; done) | (dsimp only at hSw; obtain ⟨s0, s1⟩ := hSw; go_simp; done) | rfl⟩) (by assumption) ?_
          simp only [Act.put, List.getElem_toArray, List.getElem_cons_succ, List.getElem_cons_zero, List.setIfInBounds_toArray, List.set_cons_succ, List.set_cons_zero]
          refine wpAnyH_take (i := 6) (v := .pointer (some ⟨Q, 5, none⟩)) rfl (by kernel_rfl) (by kernel_rfl) (by kernel_rfl) (fun _ _ _ h => h) (Or.inl ⟨by kernel_rfl, fun w hSw => by first | (go_simp; done) | (dsimp only at hSw; obtain ⟨s0, s1⟩ := hSw; go_simp; done) | rfl⟩) (by assumption) ?_
          simp only [Act.put, List.getElem_toArray, List.getElem_cons_succ, List.getElem_cons_zero, List.setIfInBounds_toArray, List.set_cons_succ, List.set_cons_zero]
          refine wpAnyH_take (i := 7) (v := .int .i64 (fi + la)) rfl (by kernel_rfl) (by kernel_rfl) (by kernel_rfl) (fun _ _ _ h => h) (Or.inl ⟨by kernel_rfl, fun w hSw => by first | (go_simp; done) | (dsimp only at hSw; obtain ⟨s0, s1⟩ := hSw; go_simp; done) | rfl⟩) (by assumption) ?_
          simp only [Act.put, List.getElem_toArray, List.getElem_cons_succ, List.getElem_cons_zero, List.setIfInBounds_toArray, List.set_cons_succ, List.set_cons_zero]
          refine wpAnyH_take (i := 8) (v := .pointer (some ⟨Q, 4, none⟩)) rfl (by kernel_rfl) (by kernel_rfl) (by kernel_rfl) (fun _ _ _ h => h) (Or.inl ⟨by kernel_rfl, fun w hSw => by first | (go_simp; done) | (dsimp only at hSw; obtain ⟨s0, s1⟩ := hSw; go_simp; done) | rfl⟩) (by assumption) ?_
          simp only [Act.put, List.getElem_toArray, List.getElem_cons_succ, List.getElem_cons_zero, List.setIfInBounds_toArray, List.set_cons_succ, List.set_cons_zero]
          refine wpAnyH_take (i := 9) (v := .int .i64 fi) rfl (by kernel_rfl) (by kernel_rfl) (by kernel_rfl) (fun _ _ _ h => h) (Or.inl ⟨by kernel_rfl, fun w hSw => by first | (go_simp; done) | (dsimp only at hSw; obtain ⟨s0, s1⟩ := hSw; go_simp; done) | rfl⟩) (by assumption) ?_
          simp only [Act.put, List.getElem_toArray, List.getElem_cons_succ, List.getElem_cons_zero, List.setIfInBounds_toArray, List.set_cons_succ, List.set_cons_zero]
          refine wpAnyH_take (i := 10) (v := .int .i64 la) rfl (by kernel_rfl) (by kernel_rfl) (by kernel_rfl) (fun _ _ _ h => h) (Or.inl ⟨by kernel_rfl, fun w hSw => by first | (go_simp; done) | (dsimp only at hSw; obtain ⟨s0, s1⟩ := hSw; go_simp; done) | rfl⟩) (by assumption) ?_
          simp only [Act.put, List.getElem_toArray, List.getElem_cons_succ, List.getElem_cons_zero, List.setIfInBounds_toArray, List.set_cons_succ, List.set_cons_zero]
          refine wpAnyH_take (i := 11) (v := .int .i64 (la + 1)) rfl (by kernel_rfl) (by kernel_rfl) (by kernel_rfl) (fun _ _ _ h => h) (Or.inl ⟨by kernel_rfl, fun w hSw => by first | (go_simp; done) | (dsimp only at hSw; obtain ⟨s0, s1⟩ := hSw; go_simp; done) | rfl⟩) (by assumption) ?_
          simp only [Act.put, List.getElem_toArray, List.getElem_cons_succ, List.getElem_cons_zero, List.setIfInBounds_toArray, List.set_cons_succ, List.set_cons_zero]
          refine wpAnyH_take (i := 14) (v := .pointer (some ⟨c, 0, none⟩)) rfl (by kernel_rfl) (by kernel_rfl) (by kernel_rfl) (fun _ _ _ h => h) (Or.inl ⟨by kernel_rfl, fun w hSw => by first | (go_simp; done) | (dsimp only at hSw; obtain ⟨s0, s1⟩ := hSw; go_simp; done) | rfl⟩) (by assumption) ?_
          simp only [Act.put, List.getElem_toArray, List.getElem_cons_succ, List.getElem_cons_zero, List.setIfInBounds_toArray, List.set_cons_succ, List.set_cons_zero]
          refine wpAnyH_take (i := 17) (v := .pointer (some ⟨c, 0, none⟩)) rfl (by kernel_rfl) (by kernel_rfl) (by kernel_rfl) (fun _ _ _ h => h) (Or.inl ⟨by kernel_rfl, fun w hSw => by first | (go_simp; done) | (dsimp only at hSw; obtain ⟨s0, s1⟩ := hSw; go_simp; done) | rfl⟩) (by assumption) ?_
          simp only [Act.put, List.getElem_toArray, List.getElem_cons_succ, List.getElem_cons_zero, List.setIfInBounds_toArray, List.set_cons_succ, List.set_cons_zero]
          generalize World.drew wr = w7 at *
          refine wpAnyH_ready (rs := [1, 21]) (by kernel_rfl) (by simp) ?_
          refine AllReadyH.cons rfl (fun K hK => ?_) (AllReadyH.cons rfl (fun K hK => ?_) (AllReadyH.nil))
          · go_simp
            go_wp2_with (go_at_call 31; (with_reducible refine (below_any C0 (900)).mono ?_); rintro e w1 ⟨⟨x1, rfl, hx1a, hx1b⟩, C1, M1⟩)
            have K1 := K0.trans (Kb.moved M1)
            refine hK.out _ _ ?_ (fun hHeld2 => ?_)
            · exact HS.out _ (K1)
            clear hK K hHeld
            have hHeld := hHeld2
            clear hHeld2
            have hx1c := hx1b (by omega)
            obtain ⟨d1, hd1⟩ : ∃ d : Int, 1 + x1 = d := ⟨_, rfl⟩
            have qd1a : wrap64 (1 + x1) = d1 := by rw [hd1]; unfold wrap64; omega
            have qd1b : IntKind.i64.wrap (1 + x1) = d1 := by rw [hd1, IntKind.wrap_i64]; omega
            clear hd1 hx1a hx1b hx1c
            refine wpAnyH_take (i := 2) (v := .int .i64 d1) rfl (by kernel_rfl) (by kernel_rfl) (by kernel_rfl) (fun _ _ _ h => h) (Or.inl ⟨by kernel_rfl, fun w hSw => by first | (go_simp; done) | (dsimp only at hSw; obtain ⟨s0, s1⟩ := hSw; go_simp; done) | rfl⟩) (by assumption) ?_
            simp only [Act.put, List.getElem_toArray, List.getElem_cons_succ, List.getElem_cons_zero, List.setIfInBounds_toArray, List.set_cons_succ, List.set_cons_zero]
            clear qd1a qd1b
            refine wpAnyH_ready (rs := [12, 21]) (by kernel_rfl) (by simp) ?_
            refine AllReadyH.cons rfl (fun K hK => ?_) (AllReadyH.cons rfl (fun K hK => ?_) (AllReadyH.nil))
            · go_simp
              go_wp2_with (go_at_call 31; (with_reducible refine (below_any C1 (la + 1)).mono ?_); rintro e w2 ⟨⟨x2, rfl, hx2a, hx2b⟩, C2, M2⟩)
              have K2 := K1.trans (Kb.moved M2)
              refine hK.out _ _ ?_ (fun hHeld2 => ?_)
              · exact HS.out _ (K2)
              clear hK K hHeld
              have hHeld := hHeld2
              clear hHeld2
              have hx2c := hx2b (by omega)
              obtain ⟨d2, hd2⟩ : ∃ d : Int, fi + x2 = d := ⟨_, rfl⟩
              have qd2a : wrap64 (fi + x2) = d2 := by rw [hd2]; unfold wrap64; omega
              have qd2b : IntKind.i64.wrap (fi + x2) = d2 := by rw [hd2, IntKind.wrap_i64]; omega
              clear hd2 hx2a hx2b hx2c
              refine wpAnyH_take (i := 13) (v := .int .i64 d2) rfl (by kernel_rfl) (by kernel_rfl) (by kernel_rfl) (fun _ _ _ h => h) (Or.inl ⟨by kernel_rfl, fun w hSw => by first | (go_simp; done) | (dsimp only at hSw; obtain ⟨s0, s1⟩ := hSw; go_simp; done) | rfl⟩) (by assumption) ?_
              simp only [Act.put, List.getElem_toArray, List.getElem_cons_succ, List.getElem_cons_zero, List.setIfInBounds_toArray, List.set_cons_succ, List.set_cons_zero]
              clear qd2a qd2b
              refine wpAnyH_ready (rs := [15, 21]) (by kernel_rfl) (by simp) ?_
              refine AllReadyH.cons rfl (fun K hK => ?_) (AllReadyH.cons rfl (fun K hK => ?_) (AllReadyH.nil))
              · go_simp
                go_wp2_with (go_at_call 31; (with_reducible refine (below_any C2 (20)).mono ?_); rintro e w3 ⟨⟨x3, rfl, hx3a, hx3b⟩, C3, M3⟩)
                have K3 := K2.trans (Kb.moved M3)
                refine hK.out _ _ ?_ (fun hHeld2 => ?_)
                · exact HS.out _ (K3)
                clear hK K hHeld
                have hHeld := hHeld2
                clear hHeld2
                have hx3c := hx3b (by omega)
                obtain ⟨d3, hd3⟩ : ∃ d : Int, 1 + x3 = d := ⟨_, rfl⟩
                have qd3a : wrap64 (1 + x3) = d3 := by rw [hd3]; unfold wrap64; omega
                have qd3b : IntKind.i64.wrap (1 + x3) = d3 := by rw [hd3, IntKind.wrap_i64]; omega
                clear hd3 hx3a hx3b hx3c
                refine wpAnyH_take (i := 16) (v := .int .i64 d3) rfl (by kernel_rfl) (by kernel_rfl) (by kernel_rfl) (fun _ _ _ h => h) (Or.inl ⟨by kernel_rfl, fun w hSw => by first | (go_simp; done) | (dsimp only at hSw; obtain ⟨s0, s1⟩ := hSw; go_simp; done) | rfl⟩) (by assumption) ?_
                simp only [Act.put, List.getElem_toArray, List.getElem_cons_succ, List.getElem_cons_zero, List.setIfInBounds_toArray, List.set_cons_succ, List.set_cons_zero]
                clear qd3a qd3b
                refine wpAnyH_ready (rs := [18, 21]) (by kernel_rfl) (by simp) ?_
                refine AllReadyH.cons rfl (fun K hK => ?_) (AllReadyH.cons rfl (fun K hK => ?_) (AllReadyH.nil))
                · go_simp
                  go_wp2_with (go_at_call 31; (with_reducible refine (below_any C3 (20)).mono ?_); rintro e w4 ⟨⟨x4, rfl, hx4a, hx4b⟩, C4, M4⟩)
                  have K4 := K3.trans (Kb.moved M4)
                  refine hK.out _ _ ?_ (fun hHeld2 => ?_)
                  · exact HS.out _ (K4)
                  clear hK K hHeld
                  have hHeld := hHeld2
                  clear hHeld2
                  have hx4c := hx4b (by omega)
                  obtain ⟨d4, hd4⟩ : ∃ d : Int, 21 + x4 = d := ⟨_, rfl⟩
                  have qd4a : wrap64 (21 + x4) = d4 := by rw [hd4]; unfold wrap64; omega
                  have qd4b : IntKind.i64.wrap (21 + x4) = d4 := by rw [hd4, IntKind.wrap_i64]; omega
                  clear hd4 hx4a hx4b hx4c
                  refine wpAnyH_take (i := 19) (v := .int .i64 d4) rfl (by kernel_rfl) (by kernel_rfl) (by kernel_rfl) (fun _ _ _ h => h) (Or.inl ⟨by kernel_rfl, fun w hSw => by first | (go_simp; done) | (dsimp only at hSw; obtain ⟨s0, s1⟩ := hSw; go_simp; done) | rfl⟩) (by assumption) ?_
                  simp only [Act.put, List.getElem_toArray, List.getElem_cons_succ, List.getElem_cons_zero, List.setIfInBounds_toArray, List.set_cons_succ, List.set_cons_zero]
                  clear qd4a qd4b
                  refine wpAnyH_take (i := 20) (v := .agg #[.int .i64 d1, .int .i64 d2, .int .i64 d3, .int .i64 d4, .int .i64 0, .int .i64 0]) rfl (by kernel_rfl) (by kernel_rfl) (by kernel_rfl) (fun _ _ _ h => h) (Or.inl ⟨by kernel_rfl, fun w hSw => by first | (go_simp; done) | (dsimp only at hSw; obtain ⟨s0, s1⟩ := hSw; go_simp; done) | rfl⟩) (by assumption) ?_
                  simp only [Act.put, List.getElem_toArray, List.getElem_cons_succ, List.getElem_cons_zero, List.setIfInBounds_toArray, List.set_cons_succ, List.set_cons_zero]
                  refine wpAnyH_ready (rs := [21]) (by kernel_rfl) (by simp) ?_
                  refine AllReadyH.cons rfl (fun K hK => ?_) (AllReadyH.nil)
                  go_simp
                  have K5 : Kb c wr (w4.alloc (.cells #[.int .i64 0, .int .i64 0, .int .i64 0, .int .i64 0, .int .i64 0, .int .i64 0] 40)) := K4.alloc _
                  have C5 := C4.alloc (.cells #[.int .i64 0, .int .i64 0, .int .i64 0, .int .i64 0, .int .i64 0, .int .i64 0] 40)
                  have X5 := heap_new w4 (.cells #[.int .i64 0, .int .i64 0, .int .i64 0, .int .i64 0, .int .i64 0, .int .i64 0] 40)
                  have hXw : wr.heap.size ≤ w4.heap.size := K4.size
                  have hXc : w4.heap.size ≠ c := by have := C4.lt; omega
                  have hXW : W0.heap.size ≤ w4.heap.size := C4.below.size
                  refine hK.out _ _ ?_ (fun hHeld2 => ?_)
                  · exact HS.out _ (K5)
                  clear hK K hHeld
                  have hHeld := hHeld2
                  clear hHeld2
                  obtain ⟨X, hXe⟩ : ∃ X, w4.heap.size = X := ⟨_, rfl⟩
                  rw [hXe] at X5 hXw hXc hXW
                  try rw [hXe]
                  clear hXe
                  generalize w4.alloc (.cells #[.int .i64 0, .int .i64 0, .int .i64 0, .int .i64 0, .int .i64 0, .int .i64 0] 40) = w5 at *
                  have z0 : w5.cell? ⟨X, 0, none⟩ = some (.int .i64 0) := cell_at X5 0
                  have fz0 : w5.frozen? ⟨X, 0, none⟩ = false := frozen_at X5 0
                  have z1 : w5.cell? ⟨X, 1, none⟩ = some (.int .i64 0) := cell_at X5 1
                  have fz1 : w5.frozen? ⟨X, 1, none⟩ = false := frozen_at X5 1
                  have z2 : w5.cell? ⟨X, 2, none⟩ = some (.int .i64 0) := cell_at X5 2
                  have fz2 : w5.frozen? ⟨X, 2, none⟩ = false := frozen_at X5 2
                  have z3 : w5.cell? ⟨X, 3, none⟩ = some (.int .i64 0) := cell_at X5 3
                  have fz3 : w5.frozen? ⟨X, 3, none⟩ = false := frozen_at X5 3
                  have z4 : w5.cell? ⟨X, 4, none⟩ = some (.int .i64 0) := cell_at X5 4
                  have fz4 : w5.frozen? ⟨X, 4, none⟩ = false := frozen_at X5 4
                  have z5 : w5.cell? ⟨X, 5, none⟩ = some (.int .i64 0) := cell_at X5 5
                  have fz5 : w5.frozen? ⟨X, 5, none⟩ = false := frozen_at X5 5
                  have K9 : Kb c wr ((((((w5.setCell ⟨X, 0, none⟩ (.int .i64 d1)).setCell ⟨X, 1, none⟩ (.int .i64 d2)).setCell ⟨X, 2, none⟩ (.int .i64 d3)).setCell ⟨X, 3, none⟩ (.int .i64 d4)).setCell ⟨X, 4, none⟩ (.int .i64 0)).setCell ⟨X, 5, none⟩ (.int .i64 0)) := ((((((K5.set X 0 (.int .i64 d1) hXw).set X 1 (.int .i64 d2) hXw).set X 2 (.int .i64 d3) hXw).set X 3 (.int .i64 d4) hXw).set X 4 (.int .i64 0) hXw).set X 5 (.int .i64 0) hXw)
                  have C9 : Is W0 a n cap c ((((((w5.setCell ⟨X, 0, none⟩ (.int .i64 d1)).setCell ⟨X, 1, none⟩ (.int .i64 d2)).setCell ⟨X, 2, none⟩ (.int .i64 d3)).setCell ⟨X, 3, none⟩ (.int .i64 d4)).setCell ⟨X, 4, none⟩ (.int .i64 0)).setCell ⟨X, 5, none⟩ (.int .i64 0)) := ((((((C5.set X 0 (.int .i64 d1) hXc hXW).set X 1 (.int .i64 d2) hXc hXW).set X 2 (.int .i64 d3) hXc hXW).set X 3 (.int .i64 d4) hXc hXW).set X 4 (.int .i64 0) hXc hXW).set X 5 (.int .i64 0) hXc hXW)
                  have X9 : ((((((w5.setCell ⟨X, 0, none⟩ (.int .i64 d1)).setCell ⟨X, 1, none⟩ (.int .i64 d2)).setCell ⟨X, 2, none⟩ (.int .i64 d3)).setCell ⟨X, 3, none⟩ (.int .i64 d4)).setCell ⟨X, 4, none⟩ (.int .i64 0)).setCell ⟨X, 5, none⟩ (.int .i64 0)).heap[X]? = some (.cells #[.int .i64 d1, .int .i64 d2, .int .i64 d3, .int .i64 d4, .int .i64 0, .int .i64 0] 40) := set6_heap X5 ..
                  refine wpAnyH_ready (rs := [22]) (by kernel_rfl) (by simp) ?_
                  refine AllReadyH.cons rfl (fun K hK => ?_) (AllReadyH.nil)
                  go_simp
                  refine hK.out _ _ ?_ (fun hHeld2 => ?_)
                  · exact HS.out _ (K9)
                  clear hK K hHeld
                  have hHeld := hHeld2
                  clear hHeld2
                  refine wpAnyH_done (by kernel_rfl) ?_ _
                  clear hHeld z0 fz0 z1 fz1 z2 fz2 z3 fz3 z4 fz4 z5 fz5
                  go_wp2
                  go_meet
                  case rel => exact ⟨X, d1, d2, d3, d4, rfl, hXw, X9, C9, K9⟩
                · go_simp
                  have K6 : Kb c wr (w3.alloc (.cells #[.int .i64 0, .int .i64 0, .int .i64 0, .int .i64 0, .int .i64 0, .int .i64 0] 40)) := K3.alloc _
                  have C6 := C3.alloc (.cells #[.int .i64 0, .int .i64 0, .int .i64 0, .int .i64 0, .int .i64 0, .int .i64 0] 40)
                  have X6 := heap_new w3 (.cells #[.int .i64 0, .int .i64 0, .int .i64 0, .int .i64 0, .int .i64 0, .int .i64 0] 40)
                  have hXw : wr.heap.size ≤ w3.heap.size := K3.size
                  have hXc : w3.heap.size ≠ c := by have := C3.lt; omega
                  have hXW : W0.heap.size ≤ w3.heap.size := C3.below.size
                  refine hK.out _ _ ?_ (fun hHeld2 => ?_)
                  · exact HS.out _ (K6)
                  clear hK K hHeld
                  have hHeld := hHeld2
                  clear hHeld2
                  obtain ⟨X, hXe⟩ : ∃ X, w3.heap.size = X := ⟨_, rfl⟩
                  rw [hXe] at X6 hXw hXc hXW
                  try rw [hXe]
                  clear hXe
                  generalize w3.alloc (.cells #[.int .i64 0, .int .i64 0, .int .i64 0, .int .i64 0, .int .i64 0, .int .i64 0] 40) = w6 at *
                  refine wpAnyH_ready (rs := [18]) (by kernel_rfl) (by simp) ?_
                  refine AllReadyH.cons rfl (fun K hK => ?_) (AllReadyH.nil)
                  go_simp
                  go_wp2_with (go_at_call 31; (with_reducible refine (below_any C6 (20)).mono ?_); rintro e w7 ⟨⟨x7, rfl, hx7a, hx7b⟩, C7, M7⟩)
                  have K7 := K6.trans (Kb.moved M7)
                  have X7 : w7.heap[X]? = some (.cells #[.int .i64 0, .int .i64 0, .int .i64 0, .int .i64 0, .int .i64 0, .int .i64 0] 40) := (M7.block X hXc).trans X6
                  refine hK.out _ _ ?_ (fun hHeld2 => ?_)
                  · exact HS.out _ (K7)
                  clear hK K hHeld
                  have hHeld := hHeld2
                  clear hHeld2
                  have hx7c := hx7b (by omega)
                  obtain ⟨d4, hd4⟩ : ∃ d : Int, 21 + x7 = d := ⟨_, rfl⟩
                  have qd4a : wrap64 (21 + x7) = d4 := by rw [hd4]; unfold wrap64; omega
                  have qd4b : IntKind.i64.wrap (21 + x7) = d4 := by rw [hd4, IntKind.wrap_i64]; omega
                  clear hd4 hx7a hx7b hx7c
                  refine wpAnyH_take (i := 19) (v := .int .i64 d4) rfl (by kernel_rfl) (by kernel_rfl) (by kernel_rfl) (fun _ _ _ h => h) (Or.inl ⟨by kernel_rfl, fun w hSw => by first | (go_simp; done) | (dsimp only at hSw; obtain ⟨s0, s1⟩ := hSw; go_simp; done) | rfl⟩) (by assumption) ?_
                  simp only [Act.put, List.getElem_toArray, List.getElem_cons_succ, List.getElem_cons_zero, List.setIfInBounds_toArray, List.set_cons_succ, List.set_cons_zero]
                  clear qd4a qd4b
                  refine wpAnyH_take (i := 20) (v := .agg #[.int .i64 d1, .int .i64 d2, .int .i64 d3, .int .i64 d4, .int .i64 0, .int .i64 0]) rfl (by kernel_rfl) (by kernel_rfl) (by kernel_rfl) (fun _ _ _ h => h) (Or.inl ⟨by kernel_rfl, fun w hSw => by first | (go_simp; done) | (dsimp only at hSw; obtain ⟨s0, s1⟩ := hSw; go_simp; done) | rfl⟩) (by assumption) ?_
                  simp only [Act.put, List.getElem_toArray, List.getElem_cons_succ, List.getElem_cons_zero, List.setIfInBounds_toArray, List.set_cons_succ, List.set_cons_zero]
                  have z0 : w7.cell? ⟨X, 0, none⟩ = some (.int .i64 0) := cell_at X7 0
                  have fz0 : w7.frozen? ⟨X, 0, none⟩ = false := frozen_at X7 0
                  have z1 : w7.cell? ⟨X, 1, none⟩ = some (.int .i64 0) := cell_at X7 1
                  have fz1 : w7.frozen? ⟨X, 1, none⟩ = false := frozen_at X7 1
                  have z2 : w7.cell? ⟨X, 2, none⟩ = some (.int .i64 0) := cell_at X7 2
                  have fz2 : w7.frozen? ⟨X, 2, none⟩ = false := frozen_at X7 2
                  have z3 : w7.cell? ⟨X, 3, none⟩ = some (.int .i64 0) := cell_at X7 3
                  have fz3 : w7.frozen? ⟨X, 3, none⟩ = false := frozen_at X7 3
                  have z4 : w7.cell? ⟨X, 4, none⟩ = some (.int .i64 0) := cell_at X7 4
                  have fz4 : w7.frozen? ⟨X, 4, none⟩ = false := frozen_at X7 4
                  have z5 : w7.cell? ⟨X, 5, none⟩ = some (.int .i64 0) := cell_at X7 5
                  have fz5 : w7.frozen? ⟨X, 5, none⟩ = false := frozen_at X7 5
                  have K9 : Kb c wr ((((((w7.setCell ⟨X, 0, none⟩ (.int .i64 d1)).setCell ⟨X, 1, none⟩ (.int .i64 d2)).setCell ⟨X, 2, none⟩ (.int .i64 d3)).setCell ⟨X, 3, none⟩ (.int .i64 d4)).setCell ⟨X, 4, none⟩ (.int .i64 0)).setCell ⟨X, 5, none⟩ (.int .i64 0)) := ((((((K7.set X 0 (.int .i64 d1) hXw).set X 1 (.int .i64 d2) hXw).set X 2 (.int .i64 d3) hXw).set X 3 (.int .i64 d4) hXw).set X 4 (.int .i64 0) hXw).set X 5 (.int .i64 0) hXw)
                  have C9 : Is W0 a n cap c ((((((w7.setCell ⟨X, 0, none⟩ (.int .i64 d1)).setCell ⟨X, 1, none⟩ (.int .i64 d2)).setCell ⟨X, 2, none⟩ (.int .i64 d3)).setCell ⟨X, 3, none⟩ (.int .i64 d4)).setCell ⟨X, 4, none⟩ (.int .i64 0)).setCell ⟨X, 5, none⟩ (.int .i64 0)) := ((((((C7.set X 0 (.int .i64 d1) hXc hXW).set X 1 (.int .i64 d2) hXc hXW).set X 2 (.int .i64 d3) hXc hXW).set X 3 (.int .i64 d4) hXc hXW).set X 4 (.int .i64 0) hXc hXW).set X 5 (.int .i64 0) hXc hXW)
                  have X9 : ((((((w7.setCell ⟨X, 0, none⟩ (.int .i64 d1)).setCell ⟨X, 1, none⟩ (.int .i64 d2)).setCell ⟨X, 2, none⟩ (.int .i64 d3)).setCell ⟨X, 3, none⟩ (.int .i64 d4)).setCell ⟨X, 4, none⟩ (.int .i64 0)).setCell ⟨X, 5, none⟩ (.int .i64 0)).heap[X]? = some (.cells #[.int .i64 d1, .int .i64 d2, .int .i64 d3, .int .i64 d4, .int .i64 0, .int .i64 0] 40) := set6_heap X7 ..
                  refine wpAnyH_ready (rs := [22]) (by kernel_rfl) (by simp) ?_
                  refine AllReadyH.cons rfl (fun K hK => ?_) (AllReadyH.nil)
                  go_simp
                  refine hK.out _ _ ?_ (fun hHeld2 => ?_)
                  · exact HS.out _ (K9)
                  clear hK K hHeld
                  have hHeld := hHeld2
                  clear hHeld2
                  refine wpAnyH_done (by kernel_rfl) ?_ _
                  clear hHeld z0 fz0 z1 fz1 z2 fz2 z3 fz3 z4 fz4 z5 fz5
                  go_wp2
                  go_meet
                  case rel => exact ⟨X, d1, d2, d3, d4, rfl, hXw, X9, C9, K9⟩
              · go_simp
                have K8 : Kb c wr (w2.alloc (.cells #[.int .i64 0, .int .i64 0, .int .i64 0, .int .i64 0, .int .i64 0, .int .i64 0] 40)) := K2.alloc _
                have C8 := C2.alloc (.cells #[.int .i64 0, .int .i64 0, .int .i64 0, .int .i64 0, .int .i64 0, .int .i64 0] 40)
                have X8 := heap_new w2 (.cells #[.int .i64 0, .int .i64 0, .int .i64 0, .int .i64 0, .int .i64 0, .int .i64 0] 40)
                have hXw : wr.heap.size ≤ w2.heap.size := K2.size
                have hXc : w2.heap.size ≠ c := by have := C2.lt; omega
                have hXW : W0.heap.size ≤ w2.heap.size := C2.below.size
                refine hK.out _ _ ?_ (fun hHeld2 => ?_)
                · exact HS.out _ (K8)
                clear hK K hHeld
                have hHeld := hHeld2
                clear hHeld2
                obtain ⟨X, hXe⟩ : ∃ X, w2.heap.size = X := ⟨_, rfl⟩
                rw [hXe] at X8 hXw hXc hXW
                try rw [hXe]
                clear hXe
                generalize w2.alloc (.cells #[.int .i64 0, .int .i64 0, .int .i64 0, .int .i64 0, .int .i64 0, .int .i64 0] 40) = w8 at *
                refine wpAnyH_ready (rs := [15]) (by kernel_rfl) (by simp) ?_
                refine AllReadyH.cons rfl (fun K hK => ?_) (AllReadyH.nil)
                go_simp
                go_wp2_with (go_at_call 31; (with_reducible refine (below_any C8 (20)).mono ?_); rintro e w9 ⟨⟨x9, rfl, hx9a, hx9b⟩, C9, M9⟩)
                have K9 := K8.trans (Kb.moved M9)
                have X9 : w9.heap[X]? = some (.cells #[.int .i64 0, .int .i64 0, .int .i64 0, .int .i64 0, .int .i64 0, .int .i64 0] 40) := (M9.block X hXc).trans X8
                refine hK.out _ _ ?_ (fun hHeld2 => ?_)
                · exact HS.out _ (K9)
                clear hK K hHeld
                have hHeld := hHeld2
                clear hHeld2
                have hx9c := hx9b (by omega)
                obtain ⟨d3, hd3⟩ : ∃ d : Int, 1 + x9 = d := ⟨_, rfl⟩
                have qd3a : wrap64 (1 + x9) = d3 := by rw [hd3]; unfold wrap64; omega
                have qd3b : IntKind.i64.wrap (1 + x9) = d3 := by rw [hd3, IntKind.wrap_i64]; omega
                clear hd3 hx9a hx9b hx9c
                refine wpAnyH_take (i := 16) (v := .int .i64 d3) rfl (by kernel_rfl) (by kernel_rfl) (by kernel_rfl) (fun _ _ _ h => h) (Or.inl ⟨by kernel_rfl, fun w hSw => by first | (go_simp; done) | (dsimp only at hSw; obtain ⟨s0, s1⟩ := hSw; go_simp; done) | rfl⟩) (by assumption) ?_
                simp only [Act.put, List.getElem_toArray, List.getElem_cons_succ, List.getElem_cons_zero, List.setIfInBounds_toArray, List.set_cons_succ, List.set_cons_zero]
                clear qd3a qd3b
                refine wpAnyH_ready (rs := [18]) (by kernel_rfl) (by simp) ?_
                refine AllReadyH.cons rfl (fun K hK => ?_) (AllReadyH.nil)
                go_simp
                go_wp2_with (go_at_call 31; (with_reducible refine (below_any C9 (20)).mono ?_); rintro e w10 ⟨⟨x10, rfl, hx10a, hx10b⟩, C10, M10⟩)
                have K10 := K9.trans (Kb.moved M10)
                have X10 : w10.heap[X]? = some (.cells #[.int .i64 0, .int .i64 0, .int .i64 0, .int .i64 0, .int .i64 0, .int .i64 0] 40) := (M10.block X hXc).trans X9
                refine hK.out _ _ ?_ (fun hHeld2 => ?_)
                · exact HS.out _ (K10)
                clear hK K hHeld
                have hHeld := hHeld2
                clear hHeld2
                have hx10c := hx10b (by omega)
                obtain ⟨d4, hd4⟩ : ∃ d : Int, 21 + x10 = d := ⟨_, rfl⟩
                have qd4a : wrap64 (21 + x10) = d4 := by rw [hd4]; unfold wrap64; omega
                have qd4b : IntKind.i64.wrap (21 + x10) = d4 := by rw [hd4, IntKind.wrap_i64]; omega
                clear hd4 hx10a hx10b hx10c
                refine wpAnyH_take (i := 19) (v := .int .i64 d4) rfl (by kernel_rfl) (by kernel_rfl) (by kernel_rfl) (fun _ _ _ h => h) (Or.inl ⟨by kernel_rfl, fun w hSw => by first | (go_simp; done) | (dsimp only at hSw; obtain ⟨s0, s1⟩ := hSw; go_simp; done) | rfl⟩) (by assumption) ?_
                simp only [Act.put, List.getElem_toArray, List.getElem_cons_succ, List.getElem_cons_zero, List.setIfInBounds_toArray, List.set_cons_succ, List.set_cons_zero]
                clear qd4a qd4b
                refine wpAnyH_take (i := 20) (v := .agg #[.int .i64 d1, .int .i64 d2, .int .i64 d3, .int .i64 d4, .int .i64 0, .int .i64 0]) rfl (by kernel_rfl) (by kernel_rfl) (by kernel_rfl) (fun _ _ _ h => h) (Or.inl ⟨by kernel_rfl, fun w hSw => by first | (go_simp; done) | (dsimp only at hSw; obtain ⟨s0, s1⟩ := hSw; go_simp; done) | rfl⟩) (by assumption) ?_
                simp only [Act.put, List.getElem_toArray, List.getElem_cons_succ, List.getElem_cons_zero, List.setIfInBounds_toArray, List.set_cons_succ, List.set_cons_zero]
                have z0 : w10.cell? ⟨X, 0, none⟩ = some (.int .i64 0) := cell_at X10 0
                have fz0 : w10.frozen? ⟨X, 0, none⟩ = false := frozen_at X10 0
                have z1 : w10.cell? ⟨X, 1, none⟩ = some (.int .i64 0) := cell_at X10 1
                have fz1 : w10.frozen? ⟨X, 1, none⟩ = false := frozen_at X10 1
                have z2 : w10.cell? ⟨X, 2, none⟩ = some (.int .i64 0) := cell_at X10 2
                have fz2 : w10.frozen? ⟨X, 2, none⟩ = false := frozen_at X10 2
                have z3 : w10.cell? ⟨X, 3, none⟩ = some (.int .i64 0) := cell_at X10 3
                have fz3 : w10.frozen? ⟨X, 3, none⟩ = false := frozen_at X10 3
                have z4 : w10.cell? ⟨X, 4, none⟩ = some (.int .i64 0) := cell_at X10 4
                have fz4 : w10.frozen? ⟨X, 4, none⟩ = false := frozen_at X10 4
                have z5 : w10.cell? ⟨X, 5, none⟩ = some (.int .i64 0) := cell_at X10 5
                have fz5 : w10.frozen? ⟨X, 5, none⟩ = false := frozen_at X10 5
                have K9 : Kb c wr ((((((w10.setCell ⟨X, 0, none⟩ (.int .i64 d1)).setCell ⟨X, 1, none⟩ (.int .i64 d2)).setCell ⟨X, 2, none⟩ (.int .i64 d3)).setCell ⟨X, 3, none⟩ (.int .i64 d4)).setCell ⟨X, 4, none⟩ (.int .i64 0)).setCell ⟨X, 5, none⟩ (.int .i64 0)) := ((((((K10.set X 0 (.int .i64 d1) hXw).set X 1 (.int .i64 d2) hXw).set X 2 (.int .i64 d3) hXw).set X 3 (.int .i64 d4) hXw).set X 4 (.int .i64 0) hXw).set X 5 (.int .i64 0) hXw)
                have C9 : Is W0 a n cap c ((((((w10.setCell ⟨X, 0, none⟩ (.int .i64 d1)).setCell ⟨X, 1, none⟩ (.int .i64 d2)).setCell ⟨X, 2, none⟩ (.int .i64 d3)).setCell ⟨X, 3, none⟩ (.int .i64 d4)).setCell ⟨X, 4, none⟩ (.int .i64 0)).setCell ⟨X, 5, none⟩ (.int .i64 0)) := ((((((C10.set X 0 (.int .i64 d1) hXc hXW).set X 1 (.int .i64 d2) hXc hXW).set X 2 (.int .i64 d3) hXc hXW).set X 3 (.int .i64 d4) hXc hXW).set X 4 (.int .i64 0) hXc hXW).set X 5 (.int .i64 0) hXc hXW)
                have X9 : ((((((w10.setCell ⟨X, 0, none⟩ (.int .i64 d1)).setCell ⟨X, 1, none⟩ (.int .i64 d2)).setCell ⟨X, 2, none⟩ (.int .i64 d3)).setCell ⟨X, 3, none⟩ (.int .i64 d4)).setCell ⟨X, 4, none⟩ (.int .i64 0)).setCell ⟨X, 5, none⟩ (.int .i64 0)).heap[X]? = some (.cells #[.int .i64 d1, .int .i64 d2, .int .i64 d3, .int .i64 d4, .int .i64 0, .int .i64 0] 40) := set6_heap X10 ..
                refine wpAnyH_ready (rs := [22]) (by kernel_rfl) (by simp) ?_
                refine AllReadyH.cons rfl (fun K hK => ?_) (AllReadyH.nil)
                go_simp
                refine hK.out _ _ ?_ (fun hHeld2 => ?_)
                · exact HS.out _ (K9)
                clear hK K hHeld
                have hHeld := hHeld2
                clear hHeld2
                refine wpAnyH_done (by kernel_rfl) ?_ _
                clear hHeld z0 fz0 z1 fz1 z2 fz2 z3 fz3 z4 fz4 z5 fz5
                go_wp2
                go_meet
                case rel => exact ⟨X, d1, d2, d3, d4, rfl, hXw, X9, C9, K9⟩
            · go_simp
              have K11 : Kb c wr (w1.alloc (.cells #[.int .i64 0, .int .i64 0, .int .i64 0, .int .i64 0, .int .i64 0, .int .i64 0] 40)) := K1.alloc _
              have C11 := C1.alloc (.cells #[.int .i64 0, .int .i64 0, .int .i64 0, .int .i64 0, .int .i64 0, .int .i64 0] 40)
              have X11 := heap_new w1 (.cells #[.int .i64 0, .int .i64 0, .int .i64 0, .int .i64 0, .int .i64 0, .int .i64 0] 40)
              have hXw : wr.heap.size ≤ w1.heap.size := K1.size
              have hXc : w1.heap.size ≠ c := by have := C1.lt; omega
              have hXW : W0.heap.size ≤ w1.heap.size := C1.below.size
              refine hK.out _ _ ?_ (fun hHeld2 => ?_)
              · exact HS.out _ (K11)
              clear hK K hHeld
              have hHeld := hHeld2
              clear hHeld2
              obtain ⟨X, hXe⟩ : ∃ X, w1.heap.size = X := ⟨_, rfl⟩
              rw [hXe] at X11 hXw hXc hXW
              try rw [hXe]
              clear hXe
              generalize w1.alloc (.cells #[.int .i64 0, .int .i64 0, .int .i64 0, .int .i64 0, .int .i64 0, .int .i64 0] 40) = w11 at *
              refine wpAnyH_ready (rs := [12]) (by kernel_rfl) (by simp) ?_
              refine AllReadyH.cons rfl (fun K hK => ?_) (AllReadyH.nil)
              go_simp
              go_wp2_with (go_at_call 31; (with_reducible refine (below_any C11 (la + 1)).mono ?_); rintro e w12 ⟨⟨x12, rfl, hx12a, hx12b⟩, C12, M12⟩)
              have K12 := K11.trans (Kb.moved M12)
              have X12 : w12.heap[X]? = some (.cells #[.int .i64 0, .int .i64 0, .int .i64 0, .int .i64 0, .int .i64 0, .int .i64 0] 40) := (M12.block X hXc).trans X11
              refine hK.out _ _ ?_ (fun hHeld2 => ?_)
              · exact HS.out _ (K12)
              clear hK K hHeld
              have hHeld := hHeld2
              clear hHeld2
              have hx12c := hx12b (by omega)
              obtain ⟨d2, hd2⟩ : ∃ d : Int, fi + x12 = d := ⟨_, rfl⟩
              have qd2a : wrap64 (fi + x12) = d2 := by rw [hd2]; unfold wrap64; omega
              have qd2b : IntKind.i64.wrap (fi + x12) = d2 := by rw [hd2, IntKind.wrap_i64]; omega
              clear hd2 hx12a hx12b hx12c
              refine wpAnyH_take (i := 13) (v := .int .i64 d2) rfl (by kernel_rfl) (by kernel_rfl) (by kernel_rfl) (fun _ _ _ h => h) (Or.inl ⟨by kernel_rfl, fun w hSw => by first | (go_simp; done) | (dsimp only at hSw; obtain ⟨s0, s1⟩ := hSw; go_simp; done) | rfl⟩) (by assumption) ?_
              simp only [Act.put, List.getElem_toArray, List.getElem_cons_succ, List.getElem_cons_zero, List.setIfInBounds_toArray, List.set_cons_succ, List.set_cons_zero]
              clear qd2a qd2b
              refine wpAnyH_ready (rs := [15]) (by kernel_rfl) (by simp) ?_
              refine AllReadyH.cons rfl (fun K hK => ?_) (AllReadyH.nil)
              go_simp
              go_wp2_with (go_at_call 31; (with_reducible refine (below_any C12 (20)).mono ?_); rintro e w13 ⟨⟨x13, rfl, hx13a, hx13b⟩, C13, M13⟩)
              have K13 := K12.trans (Kb.moved M13)
              have X13 : w13.heap[X]? = some (.cells #[.int .i64 0, .int .i64 0, .int .i64 0, .int .i64 0, .int .i64 0, .int .i64 0] 40) := (M13.block X hXc).trans X12
              refine hK.out _ _ ?_ (fun hHeld2 => ?_)
              · exact HS.out _ (K13)
              clear hK K hHeld
              have hHeld := hHeld2
              clear hHeld2
              have hx13c := hx13b (by omega)
              obtain ⟨d3, hd3⟩ : ∃ d : Int, 1 + x13 = d := ⟨_, rfl⟩
              have qd3a : wrap64 (1 + x13) = d3 := by rw [hd3]; unfold wrap64; omega
              have qd3b : IntKind.i64.wrap (1 + x13) = d3 := by rw [hd3, IntKind.wrap_i64]; omega
              clear hd3 hx13a hx13b hx13c
              refine wpAnyH_take (i := 16) (v := .int .i64 d3) rfl (by kernel_rfl) (by kernel_rfl) (by kernel_rfl) (fun _ _ _ h => h) (Or.inl ⟨by kernel_rfl, fun w hSw => by first | (go_simp; done) | (dsimp only at hSw; obtain ⟨s0, s1⟩ := hSw; go_simp; done) | rfl⟩) (by assumption) ?_
              simp only [Act.put, List.getElem_toArray, List.getElem_cons_succ, List.getElem_cons_zero, List.setIfInBounds_toArray, List.set_cons_succ, List.set_cons_zero]
              clear qd3a qd3b
              refine wpAnyH_ready (rs := [18]) (by kernel_rfl) (by simp) ?_
              refine AllReadyH.cons rfl (fun K hK => ?_) (AllReadyH.nil)
              go_simp
              go_wp2_with (go_at_call 31; (with_reducible refine (below_any C13 (20)).mono ?_); rintro e w14 ⟨⟨x14, rfl, hx14a, hx14b⟩, C14, M14⟩)
              have K14 := K13.trans (Kb.moved M14)
              have X14 : w14.heap[X]? = some (.cells #[.int .i64 0, .int .i64 0, .int .i64 0, .int .i64 0, .int .i64 0, .int .i64 0] 40) := (M14.block X hXc).trans X13
              refine hK.out _ _ ?_ (fun hHeld2 => ?_)
              · exact HS.out _ (K14)
              clear hK K hHeld
              have hHeld := hHeld2
              clear hHeld2
              have hx14c := hx14b (by omega)
              obtain ⟨d4, hd4⟩ : ∃ d : Int, 21 + x14 = d := ⟨_, rfl⟩
              have qd4a : wrap64 (21 + x14) = d4 := by rw [hd4]; unfold wrap64; omega
              have qd4b : IntKind.i64.wrap (21 + x14) = d4 := by rw [hd4, IntKind.wrap_i64]; omega
              clear hd4 hx14a hx14b hx14c
              refine wpAnyH_take (i := 19) (v := .int .i64 d4) rfl (by kernel_rfl) (by kernel_rfl) (by kernel_rfl) (fun _ _ _ h => h) (Or.inl ⟨by kernel_rfl, fun w hSw => by first | (go_simp; done) | (dsimp only at hSw; obtain ⟨s0, s1⟩ := hSw; go_simp; done) | rfl⟩) (by assumption) ?_
              simp only [Act.put, List.getElem_toArray, List.getElem_cons_succ, List.getElem_cons_zero, List.setIfInBounds_toArray, List.set_cons_succ, List.set_cons_zero]
              clear qd4a qd4b
              refine wpAnyH_take (i := 20) (v := .agg #[.int .i64 d1, .int .i64 d2, .int .i64 d3, .int .i64 d4, .int .i64 0, .int .i64 0]) rfl (by kernel_rfl) (by kernel_rfl) (by kernel_rfl) (fun _ _ _ h => h) (Or.inl ⟨by kernel_rfl, fun w hSw => by first | (go_simp; done) | (dsimp only at hSw; obtain ⟨s0, s1⟩ := hSw; go_simp; done) | rfl⟩) (by assumption) ?_
              simp only [Act.put, List.getElem_toArray, List.getElem_cons_succ, List.getElem_cons_zero, List.setIfInBounds_toArray, List.set_cons_succ, List.set_cons_zero]
              have z0 : w14.cell? ⟨X, 0, none⟩ = some (.int .i64 0) := cell_at X14 0
              have fz0 : w14.frozen? ⟨X, 0, none⟩ = false := frozen_at X14 0
              have z1 : w14.cell? ⟨X, 1, none⟩ = some (.int .i64 0) := cell_at X14 1
              have fz1 : w14.frozen? ⟨X, 1, none⟩ = false := frozen_at X14 1
              have z2 : w14.cell? ⟨X, 2, none⟩ = some (.int .i64 0) := cell_at X14 2
              have fz2 : w14.frozen? ⟨X, 2, none⟩ = false := frozen_at X14 2
              have z3 : w14.cell? ⟨X, 3, none⟩ = some (.int .i64 0) := cell_at X14 3
              have fz3 : w14.frozen? ⟨X, 3, none⟩ = false := frozen_at X14 3
              have z4 : w14.cell? ⟨X, 4, none⟩ = some (.int .i64 0) := cell_at X14 4
              have fz4 : w14.frozen? ⟨X, 4, none⟩ = false := frozen_at X14 4
              have z5 : w14.cell? ⟨X, 5, none⟩ = some (.int .i64 0) := cell_at X14 5
              have fz5 : w14.frozen? ⟨X, 5, none⟩ = false := frozen_at X14 5
              have K9 : Kb c wr ((((((w14.setCell ⟨X, 0, none⟩ (.int .i64 d1)).setCell ⟨X, 1, none⟩ (.int .i64 d2)).setCell ⟨X, 2, none⟩ (.int .i64 d3)).setCell ⟨X, 3, none⟩ (.int .i64 d4)).setCell ⟨X, 4, none⟩ (.int .i64 0)).setCell ⟨X, 5, none⟩ (.int .i64 0)) := ((((((K14.set X 0 (.int .i64 d1) hXw).set X 1 (.int .i64 d2) hXw).set X 2 (.int .i64 d3) hXw).set X 3 (.int .i64 d4) hXw).set X 4 (.int .i64 0) hXw).set X 5 (.int .i64 0) hXw)
              have C9 : Is W0 a n cap c ((((((w14.setCell ⟨X, 0, none⟩ (.int .i64 d1)).setCell ⟨X, 1, none⟩ (.int .i64 d2)).setCell ⟨X, 2, none⟩ (.int .i64 d3)).setCell ⟨X, 3, none⟩ (.int .i64 d4)).setCell ⟨X, 4, none⟩ (.int .i64 0)).setCell ⟨X, 5, none⟩ (.int .i64 0)) := ((((((C14.set X 0 (.int .i64 d1) hXc hXW).set X 1 (.int .i64 d2) hXc hXW).set X 2 (.int .i64 d3) hXc hXW).set X 3 (.int .i64 d4) hXc hXW).set X 4 (.int .i64 0) hXc hXW).set X 5 (.int .i64 0) hXc hXW)
              have X9 : ((((((w14.setCell ⟨X, 0, none⟩ (.int .i64 d1)).setCell ⟨X, 1, none⟩ (.int .i64 d2)).setCell ⟨X, 2, none⟩ (.int .i64 d3)).setCell ⟨X, 3, none⟩ (.int .i64 d4)).setCell ⟨X, 4, none⟩ (.int .i64 0)).setCell ⟨X, 5, none⟩ (.int .i64 0)).heap[X]? = some (.cells #[.int .i64 d1, .int .i64 d2, .int .i64 d3, .int .i64 d4, .int .i64 0, .int .i64 0] 40) := set6_heap X14 ..
              refine wpAnyH_ready (rs := [22]) (by kernel_rfl) (by simp) ?_
              refine AllReadyH.cons rfl (fun K hK => ?_) (AllReadyH.nil)
              go_simp
              refine hK.out _ _ ?_ (fun hHeld2 => ?_)
              · exact HS.out _ (K9)
              clear hK K hHeld
              have hHeld := hHeld2
              clear hHeld2
              refine wpAnyH_done (by kernel_rfl) ?_ _
              clear hHeld z0 fz0 z1 fz1 z2 fz2 z3 fz3 z4 fz4 z5 fz5
              go_wp2
              go_meet
              case rel => exact ⟨X, d1, d2, d3, d4, rfl, hXw, X9, C9, K9⟩
          · go_simp
            have K15 : Kb c wr (w7.alloc (.cells #[.int .i64 0, .int .i64 0, .int .i64 0, .int .i64 0, .int .i64 0, .int .i64 0] 40)) := K0.alloc _
            have C15 := C0.alloc (.cells #[.int .i64 0, .int .i64 0, .int .i64 0, .int .i64 0, .int .i64 0, .int .i64 0] 40)
            have X15 := heap_new w7 (.cells #[.int .i64 0, .int .i64 0, .int .i64 0, .int .i64 0, .int .i64 0, .int .i64 0] 40)
            have hXw : wr.heap.size ≤ w7.heap.size := K0.size
            have hXc : w7.heap.size ≠ c := by have := C0.lt; omega
            have hXW : W0.heap.size ≤ w7.heap.size := C0.below.size
            refine hK.out _ _ ?_ (fun hHeld2 => ?_)
            · exact HS.out _ (K15)
            clear hK K hHeld
            have hHeld := hHeld2
            clear hHeld2
            obtain ⟨X, hXe⟩ : ∃ X, w7.heap.size = X := ⟨_, rfl⟩
            rw [hXe] at X15 hXw hXc hXW
            try rw [hXe]
            clear hXe
            generalize w7.alloc (.cells #[.int .i64 0, .int .i64 0, .int .i64 0, .int .i64 0, .int .i64 0, .int .i64 0] 40) = w15 at *
            refine wpAnyH_ready (rs := [1]) (by kernel_rfl) (by simp) ?_
            refine AllReadyH.cons rfl (fun K hK => ?_) (AllReadyH.nil)
            go_simp
            go_wp2_with (go_at_call 31; (with_reducible refine (below_any C15 (900)).mono ?_); rintro e w16 ⟨⟨x16, rfl, hx16a, hx16b⟩, C16, M16⟩)
            have K16 := K15.trans (Kb.moved M16)
            have X16 : w16.heap[X]? = some (.cells #[.int .i64 0, .int .i64 0, .int .i64 0, .int .i64 0, .int .i64 0, .int .i64 0] 40) := (M16.block X hXc).trans X15
            refine hK.out _ _ ?_ (fun hHeld2 => ?_)
            · exact HS.out _ (K16)
            clear hK K hHeld
            have hHeld := hHeld2
            clear hHeld2
            have hx16c := hx16b (by omega)
            obtain ⟨d1, hd1⟩ : ∃ d : Int, 1 + x16 = d := ⟨_, rfl⟩
            have qd1a : wrap64 (1 + x16) = d1 := by rw [hd1]; unfold wrap64; omega
            have qd1b : IntKind.i64.wrap (1 + x16) = d1 := by rw [hd1, IntKind.wrap_i64]; omega
            clear hd1 hx16a hx16b hx16c
            refine wpAnyH_take (i := 2) (v := .int .i64 d1) rfl (by kernel_rfl) (by kernel_rfl) (by kernel_rfl) (fun _ _ _ h => h) (Or.inl ⟨by kernel_rfl, fun w hSw => by first | (go_simp; done) | (dsimp only at hSw; obtain ⟨s0, s1⟩ := hSw; go_simp; done) | rfl⟩) (by assumption) ?_
            simp only [Act.put, List.getElem_toArray, List.getElem_cons_succ, List.getElem_cons_zero, List.setIfInBounds_toArray, List.set_cons_succ, List.set_cons_zero]
            clear qd1a qd1b
            refine wpAnyH_ready (rs := [12]) (by kernel_rfl) (by simp) ?_
            refine AllReadyH.cons rfl (fun K hK => ?_) (AllReadyH.nil)
            go_simp
            go_wp2_with (go_at_call 31; (with_reducible refine (below_any C16 (la + 1)).mono ?_); rintro e w17 ⟨⟨x17, rfl, hx17a, hx17b⟩, C17, M17⟩)
            have K17 := K16.trans (Kb.moved M17)
            have X17 : w17.heap[X]? = some (.cells #[.int .i64 0, .int .i64 0, .int .i64 0, .int .i64 0, .int .i64 0, .int .i64 0] 40) := (M17.block X hXc).trans X16
            refine hK.out _ _ ?_ (fun hHeld2 => ?_)
            · exact HS.out _ (K17)
            clear hK K hHeld
            have hHeld := hHeld2
            clear hHeld2
            have hx17c := hx17b (by omega)
            obtain ⟨d2, hd2⟩ : ∃ d : Int, fi + x17 = d := ⟨_, rfl⟩
            have qd2a : wrap64 (fi + x17) = d2 := by rw [hd2]; unfold wrap64; omega
            have qd2b : IntKind.i64.wrap (fi + x17) = d2 := by rw [hd2, IntKind.wrap_i64]; omega
            clear hd2 hx17a hx17b hx17c
            refine wpAnyH_take (i := 13) (v := .int .i64 d2) rfl (by kernel_rfl) (by kernel_rfl) (by kernel_rfl) (fun _ _ _ h => h) (Or.inl ⟨by kernel_rfl, fun w hSw => by first | (go_simp; done) | (dsimp only at hSw; obtain ⟨s0, s1⟩ := hSw; go_simp; done) | rfl⟩) (by assumption) ?_
            simp only [Act.put, List.getElem_toArray, List.getElem_cons_succ, List.getElem_cons_zero, List.setIfInBounds_toArray, List.set_cons_succ, List.set_cons_zero]
            clear qd2a qd2b
            refine wpAnyH_ready (rs := [15]) (by kernel_rfl) (by simp) ?_
            refine AllReadyH.cons rfl (fun K hK => ?_) (AllReadyH.nil)
            go_simp
            go_wp2_with (go_at_call 31; (with_reducible refine (below_any C17 (20)).mono ?_); rintro e w18 ⟨⟨x18, rfl, hx18a, hx18b⟩, C18, M18⟩)
            have K18 := K17.trans (Kb.moved M18)
            have X18 : w18.heap[X]? = some (.cells #[.int .i64 0, .int .i64 0, .int .i64 0, .int .i64 0, .int .i64 0, .int .i64 0] 40) := (M18.block X hXc).trans X17
            refine hK.out _ _ ?_ (fun hHeld2 => ?_)
            · exact HS.out _ (K18)
            clear hK K hHeld
            have hHeld := hHeld2
            clear hHeld2
            have hx18c := hx18b (by omega)
            obtain ⟨d3, hd3⟩ : ∃ d : Int, 1 + x18 = d := ⟨_, rfl⟩
            have qd3a : wrap64 (1 + x18) = d3 := by rw [hd3]; unfold wrap64; omega
            have qd3b : IntKind.i64.wrap (1 + x18) = d3 := by rw [hd3, IntKind.wrap_i64]; omega
            clear hd3 hx18a hx18b hx18c
            refine wpAnyH_take (i := 16) (v := .int .i64 d3) rfl (by kernel_rfl) (by kernel_rfl) (by kernel_rfl) (fun _ _ _ h => h) (Or.inl ⟨by kernel_rfl, fun w hSw => by first | (go_simp; done) | (dsimp only at hSw; obtain ⟨s0, s1⟩ := hSw; go_simp; done) | rfl⟩) (by assumption) ?_
            simp only [Act.put, List.getElem_toArray, List.getElem_cons_succ, List.getElem_cons_zero, List.setIfInBounds_toArray, List.set_cons_succ, List.set_cons_zero]
            clear qd3a qd3b
            refine wpAnyH_ready (rs := [18]) (by kernel_rfl) (by simp) ?_
            refine AllReadyH.cons rfl (fun K hK => ?_) (AllReadyH.nil)
            go_simp
            go_wp2_with (go_at_call 31; (with_reducible refine (below_any C18 (20)).mono ?_); rintro e w19 ⟨⟨x19, rfl, hx19a, hx19b⟩, C19, M19⟩)
            have K19 := K18.trans (Kb.moved M19)
            have X19 : w19.heap[X]? = some (.cells #[.int .i64 0, .int .i64 0, .int .i64 0, .int .i64 0, .int .i64 0, .int .i64 0] 40) := (M19.block X hXc).trans X18
            refine hK.out _ _ ?_ (fun hHeld2 => ?_)
            · exact HS.out _ (K19)
            clear hK K hHeld
            have hHeld := hHeld2
            clear hHeld2
            have hx19c := hx19b (by omega)
            obtain ⟨d4, hd4⟩ : ∃ d : Int, 21 + x19 = d := ⟨_, rfl⟩
            have qd4a : wrap64 (21 + x19) = d4 := by rw [hd4]; unfold wrap64; omega
            have qd4b : IntKind.i64.wrap (21 + x19) = d4 := by rw [hd4, IntKind.wrap_i64]; omega
            clear hd4 hx19a hx19b hx19c
            refine wpAnyH_take (i := 19) (v := .int .i64 d4) rfl (by kernel_rfl) (by kernel_rfl) (by kernel_rfl) (fun _ _ _ h => h) (Or.inl ⟨by kernel_rfl, fun w hSw => by first | (go_simp; done) | (dsimp only at hSw; obtain ⟨s0, s1⟩ := hSw; go_simp; done) | rfl⟩) (by assumption) ?_
            simp only [Act.put, List.getElem_toArray, List.getElem_cons_succ, List.getElem_cons_zero, List.setIfInBounds_toArray, List.set_cons_succ, List.set_cons_zero]
            clear qd4a qd4b
            refine wpAnyH_take (i := 20) (v := .agg #[.int .i64 d1, .int .i64 d2, .int .i64 d3, .int .i64 d4, .int .i64 0, .int .i64 0]) rfl (by kernel_rfl) (by kernel_rfl) (by kernel_rfl) (fun _ _ _ h => h) (Or.inl ⟨by kernel_rfl, fun w hSw => by first | (go_simp; done) | (dsimp only at hSw; obtain ⟨s0, s1⟩ := hSw; go_simp; done) | rfl⟩) (by assumption) ?_
            simp only [Act.put, List.getElem_toArray, List.getElem_cons_succ, List.getElem_cons_zero, List.setIfInBounds_toArray, List.set_cons_succ, List.set_cons_zero]
            have z0 : w19.cell? ⟨X, 0, none⟩ = some (.int .i64 0) := cell_at X19 0
            have fz0 : w19.frozen? ⟨X, 0, none⟩ = false := frozen_at X19 0
            have z1 : w19.cell? ⟨X, 1, none⟩ = some (.int .i64 0) := cell_at X19 1
            have fz1 : w19.frozen? ⟨X, 1, none⟩ = false := frozen_at X19 1
            have z2 : w19.cell? ⟨X, 2, none⟩ = some (.int .i64 0) := cell_at X19 2
            have fz2 : w19.frozen? ⟨X, 2, none⟩ = false := frozen_at X19 2
            have z3 : w19.cell? ⟨X, 3, none⟩ = some (.int .i64 0) := cell_at X19 3
            have fz3 : w19.frozen? ⟨X, 3, none⟩ = false := frozen_at X19 3
            have z4 : w19.cell? ⟨X, 4, none⟩ = some (.int .i64 0) := cell_at X19 4
            have fz4 : w19.frozen? ⟨X, 4, none⟩ = false := frozen_at X19 4
            have z5 : w19.cell? ⟨X, 5, none⟩ = some (.int .i64 0) := cell_at X19 5
            have fz5 : w19.frozen? ⟨X, 5, none⟩ = false := frozen_at X19 5
            have K9 : Kb c wr ((((((w19.setCell ⟨X, 0, none⟩ (.int .i64 d1)).setCell ⟨X, 1, none⟩ (.int .i64 d2)).setCell ⟨X, 2, none⟩ (.int .i64 d3)).setCell ⟨X, 3, none⟩ (.int .i64 d4)).setCell ⟨X, 4, none⟩ (.int .i64 0)).setCell ⟨X, 5, none⟩ (.int .i64 0)) := ((((((K19.set X 0 (.int .i64 d1) hXw).set X 1 (.int .i64 d2) hXw).set X 2 (.int .i64 d3) hXw).set X 3 (.int .i64 d4) hXw).set X 4 (.int .i64 0) hXw).set X 5 (.int .i64 0) hXw)
            have C9 : Is W0 a n cap c ((((((w19.setCell ⟨X, 0, none⟩ (.int .i64 d1)).setCell ⟨X, 1, none⟩ (.int .i64 d2)).setCell ⟨X, 2, none⟩ (.int .i64 d3)).setCell ⟨X, 3, none⟩ (.int .i64 d4)).setCell ⟨X, 4, none⟩ (.int .i64 0)).setCell ⟨X, 5, none⟩ (.int .i64 0)) := ((((((C19.set X 0 (.int .i64 d1) hXc hXW).set X 1 (.int .i64 d2) hXc hXW).set X 2 (.int .i64 d3) hXc hXW).set X 3 (.int .i64 d4) hXc hXW).set X 4 (.int .i64 0) hXc hXW).set X 5 (.int .i64 0) hXc hXW)
            have X9 : ((((((w19.setCell ⟨X, 0, none⟩ (.int .i64 d1)).setCell ⟨X, 1, none⟩ (.int .i64 d2)).setCell ⟨X, 2, none⟩ (.int .i64 d3)).setCell ⟨X, 3, none⟩ (.int .i64 d4)).setCell ⟨X, 4, none⟩ (.int .i64 0)).setCell ⟨X, 5, none⟩ (.int .i64 0)).heap[X]? = some (.cells #[.int .i64 d1, .int .i64 d2, .int .i64 d3, .int .i64 d4, .int .i64 0, .int .i64 0] 40) := set6_heap X19 ..
            refine wpAnyH_ready (rs := [22]) (by kernel_rfl) (by simp) ?_
            refine AllReadyH.cons rfl (fun K hK => ?_) (AllReadyH.nil)
            go_simp
            refine hK.out _ _ ?_ (fun hHeld2 => ?_)
            · exact HS.out _ (K9)
            clear hK K hHeld
            have hHeld := hHeld2
            clear hHeld2
            refine wpAnyH_done (by kernel_rfl) ?_ _
            clear hHeld z0 fz0 z1 fz1 z2 fz2 z3 fz3 z4 fz4 z5 fz5
            go_wp2
            go_meet
            case rel => exact ⟨X, d1, d2, d3, d4, rfl, hXw, X9, C9, K9⟩
        case rest =>
          obtain ⟨X, d1, d2, d3, d4, rfl, hXr, xX, CX, KX⟩ := hcut
          obtain ⟨V, hVV⟩ : ∃ V, V = wc := ⟨_, rfl⟩
          subst hVV
          have hXc : X ≠ c := by have := CR.lt; omega
          have hXW : W0.heap.size ≤ X := by have := CR.below.size; omega
          have hXw : w.heap.size ≤ X := by have := KR.size; omega
          have hXQ : X ≠ Q := by omega
          have hXP : w.heap.size ≠ X := by have := lt_of yR; omega
          have xQ := KX.at hQc xR
          have xY := KX.at hRc yR
          have OV := own_kb OR KX hcw
          have KV := KR.trans KX
          have hrow : (Value.slice va k vc).ownBlock ≠ some X := fun h => by have := (OR.lt _ h).2; omega
          clear xR yR OR KX CR t4 t5 HS hwa hwb hwc hwd hwe hwf
          go_wp2_with fail
          refine (once_any CX 2).mono ?_
          rintro e w8 ⟨⟨b8, rfl⟩, C8, M8⟩
          have x8 : w8.heap[X]? = _ := (M8.block X hXc).trans xX
          have Q8 : w8.heap[Q]? = _ := (M8.block Q hQc).trans xQ
          have Y8 : w8.heap[w.heap.size]? = _ := (M8.block _ hRc).trans xY
          have O8 := own_kb OV (Kb.moved M8) hcw
          have K8 := KV.trans (Kb.moved M8)
          clear xX xQ xY OV KV CX M8
          cases b8
          · have ND := new_below w8 (.cells #[.int .i64 d1, .int .i64 d2, .int .i64 d3, .int .i64 d4, .int .i64 0, .int .i64 0] 40)
            have sD := heap_new w8 (.cells #[.int .i64 d1, .int .i64 d2, .int .i64 d3, .int .i64 d4, .int .i64 0, .int .i64 0] 40)
            have sQ := heap_old Q8 (.cells #[.int .i64 d1, .int .i64 d2, .int .i64 d3, .int .i64 d4, .int .i64 0, .int .i64 0] 40)
            have sY := heap_old Y8 (.cells #[.int .i64 d1, .int .i64 d2, .int .i64 d3, .int .i64 d4, .int .i64 0, .int .i64 0] 40)
            have OS := Pk.own_below O8 ND (Nat.le_refl _)
            have CA := C8.alloc (.cells #[.int .i64 d1, .int .i64 d2, .int .i64 d3, .int .i64 d4, .int .i64 0, .int .i64 0] 40)
            have KA := K8.alloc (.cells #[.int .i64 d1, .int .i64 d2, .int .i64 d3, .int .i64 d4, .int .i64 0, .int .i64 0] 40)
            have hWs : w.heap.size ≤ (w8.alloc (.cells #[.int .i64 d1, .int .i64 d2, .int .i64 d3, .int .i64 d4, .int .i64 0, .int .i64 0] 40)).heap.size := KA.size
            have HG : Hid (∀ j u, (Gt.lc1 (⟨d1, d2, d3, d4, 0, 0⟩ : Lg))[j]? = some u → (w8.alloc (.cells #[.int .i64 d1, .int .i64 d2, .int .i64 d3, .int .i64 d4, .int .i64 0, .int .i64 0] 40)).cell? (Addr.add ⟨w8.heap.size, 0, none⟩ j) = some u) := leg_at (p := (⟨d1, d2, d3, d4, 0, 0⟩ : Lg)) sD
            have q6 : w8.cell? ⟨Q, 6, none⟩ = some (.slice va k vc) := cell_at Q8 6
            have v0 : w8.cell? ⟨X, 0, none⟩ = some (.int .i64 d1) := cell_at x8 0
            have v1 : w8.cell? ⟨X, 1, none⟩ = some (.int .i64 d2) := cell_at x8 1
            have v2 : w8.cell? ⟨X, 2, none⟩ = some (.int .i64 d3) := cell_at x8 2
            have v3 : w8.cell? ⟨X, 3, none⟩ = some (.int .i64 d4) := cell_at x8 3
            have v4 : w8.cell? ⟨X, 4, none⟩ = some (.int .i64 0) := cell_at x8 4
            have v5 : w8.cell? ⟨X, 5, none⟩ = some (.int .i64 0) := cell_at x8 5
            obtain ⟨i0, hi, hy0, hy1, hy2⟩ := info_of Tk.info_leg
            go_wp2_with (at_builtin; go_loud (refine wpList_append_own_at _ rfl _ _ 24 rfl w.heap.size 40 i0 (Tk.lgV ⟨0, 0, 0, 0, 0, 0⟩) 6 48 Tryd.underlying24 hi hy0 hy1 hy2 rfl (by decide) _ _ _ rfl OS ⟨w8.heap.size, 0, none⟩ 1 1 (Gt.lc1 (⟨d1, d2, d3, d4, 0, 0⟩ : Lg)) rfl ?e0 ?e1 ?e2 ?e3 ?e4 ?e5 ?_))
            case e0 => rfl
            case e1 => exact HG.out
            case e2 => intro u hu; simp only [Gt.lc1, List.mem_cons, List.not_mem_nil, or_false] at hu; rcases hu with rfl | rfl | rfl | rfl | rfl | rfl <;> rfl
            case e3 => have := HKN.out; unfold maxLen; omega
            case e4 => have := HKN.out; omega
            case e5 => exact hWs
            intro v' w5 O5 G5 _ _
            rw [Gt.lcells_snoc] at O5
            obtain ⟨sa, sc, rfl, -⟩ := own_form O5
            have L5 : Below w.heap.size (w8.alloc (.cells #[.int .i64 d1, .int .i64 d2, .int .i64 d3, .int .i64 d4, .int .i64 0, .int .i64 0] 40)) w5 := (Below.refl _ _).grown G5 hWs (fun j h => (OS.lt j h).1)
            have r1 : w5.heap[Q]? = _ := (G5.block Q (lt_of sQ) (Pk.own_ne OS sQ (by decide))).trans sQ
            have r2 : w5.heap[w.heap.size]? = _ := (G5.block _ (lt_of sY) (Pk.own_ne OS sY (by decide))).trans sY
            have C5 : Is W0 a n cap c w5 := is_below CA L5 hcw hW0w
            have K5 : Kb c w w5 := ⟨Nat.le_trans KA.size G5.size, fun j h1 h2 => (L5.block j h1).trans (KA.block j h1 h2)⟩
            have y6 : w5.cell? ⟨Q, 6, none⟩ = some (.slice va k vc) := cell_at r1 6
            have g6 : w5.frozen? ⟨Q, 6, none⟩ = false := frozen_at r1 6
            have C6 := C5.set Q 6 (.slice sa (k + 1) sc) hQc hQW
            have K6 := K5.set Q 6 (.slice sa (k + 1) sc) hQw
            have x6 : (w5.setCell ⟨Q, 6, none⟩ (.slice sa (k + 1) sc)).heap[Q]? = some (tkB ⟨1 + id, 1 + cl, pr, fi, fi + la⟩ nm sa (k + 1) sc 26) := tk_set r1 _
            have z6 : (w5.setCell ⟨Q, 6, none⟩ (.slice sa (k + 1) sc)).heap[w.heap.size]? = _ := (Below.heap_setCell _ _ _ _ (fun h => hQR h.symm)).trans r2
            have O6 : Hid ((w5.setCell ⟨Q, 6, none⟩ (.slice sa (k + 1) sc)).ownsRow w.heap.size 40 6 (.slice sa (k + 1) sc) (k + 1) (lcells (ls ++ [(⟨d1, d2, d3, d4, 0, 0⟩ : Lg)]))) := own_else O5 (Pk.own_ne' O5 r1 (by decide))
            have HL2 : Hid ((ls ++ [(⟨d1, d2, d3, d4, 0, 0⟩ : Lg)]).length = k + 1) := by show _ = _; rw [List.length_append, HLK.out]; rfl
            clear G5 OS HG hi hy0 hy1 hy2 ND sD sQ sY CA KA hWs L5 r1 r2 C5 K5 O5 q6 v0 v1 v2 v3 v4 v5
            have hk9 := HKN.out
            go_wp2
            go_roundw
            case rel => exact ⟨k + 1, ls ++ [(⟨d1, d2, d3, d4, 0, 0⟩ : Lg)], sa, sc, by have := HKN.out; omega, by go_num, HL2.out, C6, K6, z6, x6, O6.out⟩
            case measure => have := HKN.out; simp [intOf]; omega
          · go_wp2_with fail
            refine (below_any C8 12).mono ?_
            rintro e u1 ⟨⟨co, rfl, hco0, hco1⟩, D1, N1⟩
            have hco2 := hco1 (by omega)
            obtain ⟨c5, hc5⟩ : ∃ d : Int, 1 + co = d := ⟨_, rfl⟩
            have hca : wrap64 (1 + co) = c5 := by rw [hc5]; unfold wrap64; omega
            have hcb : IntKind.i64.wrap (1 + co) = c5 := by rw [hc5, IntKind.wrap_i64]; omega
            clear hc5 hco0 hco1 hco2
            have x9 : u1.heap[X]? = _ := (N1.block X hXc).trans x8
            have Q9 : u1.heap[Q]? = _ := (N1.block Q hQc).trans Q8
            have Y9 : u1.heap[w.heap.size]? = _ := (N1.block _ hRc).trans Y8
            have O9 := own_kb O8 (Kb.moved N1) hcw
            have K9 := K8.trans (Kb.moved N1)
            clear x8 Q8 Y8 O8 K8 C8 N1
            have a4 : u1.cell? ⟨X, 4, none⟩ = some (.int .i64 0) := cell_at x9 4
            have f4 : u1.frozen? ⟨X, 4, none⟩ = false := frozen_at x9 4
            have DA := D1.set X 4 (.int .i64 c5) hXc hXW
            have KA := K9.set X 4 (.int .i64 c5) hXw
            have xA : (u1.setCell ⟨X, 4, none⟩ (.int .i64 c5)).heap[X]? = some (.cells #[.int .i64 d1, .int .i64 d2, .int .i64 d3, .int .i64 d4, .int .i64 c5, .int .i64 0] 40) := tk_set x9 _
            have QA : (u1.setCell ⟨X, 4, none⟩ (.int .i64 c5)).heap[Q]? = _ := (Below.heap_setCell _ _ _ _ (fun h => hXQ h.symm)).trans Q9
            have YA : (u1.setCell ⟨X, 4, none⟩ (.int .i64 c5)).heap[w.heap.size]? = _ := (Below.heap_setCell _ _ _ _ hXP).trans Y9
            have OA := own_else (i := 4) (u := .int .i64 c5) O9 hrow
            clear x9 Q9 Y9 O9 K9 D1
            go_wp2_with fail
            refine (below_any DA 80).mono ?_
            generalize u1.setCell ⟨X, 4, none⟩ (.int .i64 c5) = U1 at *
            clear a4 f4 hca hcb
            rintro e u2 ⟨⟨se, rfl, hse0, hse1⟩, D2, N2⟩
            have hse2 := hse1 (by omega)
            obtain ⟨s6, hs6⟩ : ∃ d : Int, 1 + se = d := ⟨_, rfl⟩
            have hsa : wrap64 (1 + se) = s6 := by rw [hs6]; unfold wrap64; omega
            have hsb : IntKind.i64.wrap (1 + se) = s6 := by clear hsa; rw [hs6, IntKind.wrap_i64]; omega
            clear hs6 hse0 hse1 hse2
            have xB : u2.heap[X]? = _ := (N2.block X hXc).trans xA
            have QB : u2.heap[Q]? = _ := (N2.block Q hQc).trans QA
            have YB : u2.heap[w.heap.size]? = _ := (N2.block _ hRc).trans YA
            have OB := own_kb OA (Kb.moved N2) hcw
            have KB := KA.trans (Kb.moved N2)
            clear xA QA YA OA KA DA N2
            have a5 : u2.cell? ⟨X, 5, none⟩ = some (.int .i64 0) := cell_at xB 5
            have f5 : u2.frozen? ⟨X, 5, none⟩ = false := frozen_at xB 5
            have DC := D2.set X 5 (.int .i64 s6) hXc hXW
            have KC := KB.set X 5 (.int .i64 s6) hXw
            have xC : (u2.setCell ⟨X, 5, none⟩ (.int .i64 s6)).heap[X]? = some (.cells #[.int .i64 d1, .int .i64 d2, .int .i64 d3, .int .i64 d4, .int .i64 c5, .int .i64 s6] 40) := tk_set xB _
            have QC : (u2.setCell ⟨X, 5, none⟩ (.int .i64 s6)).heap[Q]? = _ := (Below.heap_setCell _ _ _ _ (fun h => hXQ h.symm)).trans QB
            have YC : (u2.setCell ⟨X, 5, none⟩ (.int .i64 s6)).heap[w.heap.size]? = _ := (Below.heap_setCell _ _ _ _ hXP).trans YB
            have OC := own_else (i := 5) (u := .int .i64 s6) OB hrow
            clear xB QB YB OB KB D2
            have ND := new_below (u2.setCell ⟨X, 5, none⟩ (.int .i64 s6)) (.cells #[.int .i64 d1, .int .i64 d2, .int .i64 d3, .int .i64 d4, .int .i64 c5, .int .i64 s6] 40)
            have sD := heap_new (u2.setCell ⟨X, 5, none⟩ (.int .i64 s6)) (.cells #[.int .i64 d1, .int .i64 d2, .int .i64 d3, .int .i64 d4, .int .i64 c5, .int .i64 s6] 40)
            have hsz : (u2.setCell ⟨X, 5, none⟩ (.int .i64 s6)).heap.size = u2.heap.size := World.size_setCell ..
            rw [hsz] at sD
            clear hsz
            have sQ := heap_old QC (.cells #[.int .i64 d1, .int .i64 d2, .int .i64 d3, .int .i64 d4, .int .i64 c5, .int .i64 s6] 40)
            have sY := heap_old YC (.cells #[.int .i64 d1, .int .i64 d2, .int .i64 d3, .int .i64 d4, .int .i64 c5, .int .i64 s6] 40)
            have OS := Pk.own_below OC ND (Nat.le_refl _)
            have CA := DC.alloc (.cells #[.int .i64 d1, .int .i64 d2, .int .i64 d3, .int .i64 d4, .int .i64 c5, .int .i64 s6] 40)
            have KA := KC.alloc (.cells #[.int .i64 d1, .int .i64 d2, .int .i64 d3, .int .i64 d4, .int .i64 c5, .int .i64 s6] 40)
            have hWs : w.heap.size ≤ ((u2.setCell ⟨X, 5, none⟩ (.int .i64 s6)).alloc (.cells #[.int .i64 d1, .int .i64 d2, .int .i64 d3, .int .i64 d4, .int .i64 c5, .int .i64 s6] 40)).heap.size := KA.size
            have HG : Hid (∀ j u, (Gt.lc1 (⟨d1, d2, d3, d4, c5, s6⟩ : Lg))[j]? = some u → ((u2.setCell ⟨X, 5, none⟩ (.int .i64 s6)).alloc (.cells #[.int .i64 d1, .int .i64 d2, .int .i64 d3, .int .i64 d4, .int .i64 c5, .int .i64 s6] 40)).cell? (Addr.add ⟨u2.heap.size, 0, none⟩ j) = some u) := leg_at (p := (⟨d1, d2, d3, d4, c5, s6⟩ : Lg)) sD
            have q6 : (u2.setCell ⟨X, 5, none⟩ (.int .i64 s6)).cell? ⟨Q, 6, none⟩ = some (.slice va k vc) := cell_at QC 6
            have v0 : (u2.setCell ⟨X, 5, none⟩ (.int .i64 s6)).cell? ⟨X, 0, none⟩ = some (.int .i64 d1) := cell_at xC 0
            have v1 : (u2.setCell ⟨X, 5, none⟩ (.int .i64 s6)).cell? ⟨X, 1, none⟩ = some (.int .i64 d2) := cell_at xC 1
            have v2 : (u2.setCell ⟨X, 5, none⟩ (.int .i64 s6)).cell? ⟨X, 2, none⟩ = some (.int .i64 d3) := cell_at xC 2
            have v3 : (u2.setCell ⟨X, 5, none⟩ (.int .i64 s6)).cell? ⟨X, 3, none⟩ = some (.int .i64 d4) := cell_at xC 3
            have v4 : (u2.setCell ⟨X, 5, none⟩ (.int .i64 s6)).cell? ⟨X, 4, none⟩ = some (.int .i64 c5) := cell_at xC 4
            have v5 : (u2.setCell ⟨X, 5, none⟩ (.int .i64 s6)).cell? ⟨X, 5, none⟩ = some (.int .i64 s6) := cell_at xC 5
            obtain ⟨i0, hi, hy0, hy1, hy2⟩ := info_of Tk.info_leg
            go_wp2_with (at_builtin; go_loud (refine wpList_append_own_at _ rfl _ _ 24 rfl w.heap.size 40 i0 (Tk.lgV ⟨0, 0, 0, 0, 0, 0⟩) 6 48 Tryd.underlying24 hi hy0 hy1 hy2 rfl (by decide) _ _ _ rfl OS ⟨u2.heap.size, 0, none⟩ 1 1 (Gt.lc1 (⟨d1, d2, d3, d4, c5, s6⟩ : Lg)) rfl ?e0 ?e1 ?e2 ?e3 ?e4 ?e5 ?_))
            case e0 => rfl
            case e1 => exact HG.out
            case e2 => intro u hu; simp only [Gt.lc1, List.mem_cons, List.not_mem_nil, or_false] at hu; rcases hu with rfl | rfl | rfl | rfl | rfl | rfl <;> rfl
            case e3 => have := HKN.out; unfold maxLen; omega
            case e4 => have := HKN.out; omega
            case e5 => exact hWs
            intro v' w5 O5 G5 _ _
            rw [Gt.lcells_snoc] at O5
            obtain ⟨sa, sc, rfl, -⟩ := own_form O5
            have L5 : Below w.heap.size ((u2.setCell ⟨X, 5, none⟩ (.int .i64 s6)).alloc (.cells #[.int .i64 d1, .int .i64 d2, .int .i64 d3, .int .i64 d4, .int .i64 c5, .int .i64 s6] 40)) w5 := (Below.refl _ _).grown G5 hWs (fun j h => (OS.lt j h).1)
            have r1 : w5.heap[Q]? = _ := (G5.block Q (lt_of sQ) (Pk.own_ne OS sQ (by decide))).trans sQ
            have r2 : w5.heap[w.heap.size]? = _ := (G5.block _ (lt_of sY) (Pk.own_ne OS sY (by decide))).trans sY
            have C5 : Is W0 a n cap c w5 := is_below CA L5 hcw hW0w
            have K5 : Kb c w w5 := ⟨Nat.le_trans KA.size G5.size, fun j h1 h2 => (L5.block j h1).trans (KA.block j h1 h2)⟩
            have y6 : w5.cell? ⟨Q, 6, none⟩ = some (.slice va k vc) := cell_at r1 6
            have g6 : w5.frozen? ⟨Q, 6, none⟩ = false := frozen_at r1 6
            have C6 := C5.set Q 6 (.slice sa (k + 1) sc) hQc hQW
            have K6 := K5.set Q 6 (.slice sa (k + 1) sc) hQw
            have x6 : (w5.setCell ⟨Q, 6, none⟩ (.slice sa (k + 1) sc)).heap[Q]? = some (tkB ⟨1 + id, 1 + cl, pr, fi, fi + la⟩ nm sa (k + 1) sc 26) := tk_set r1 _
            have z6 : (w5.setCell ⟨Q, 6, none⟩ (.slice sa (k + 1) sc)).heap[w.heap.size]? = _ := (Below.heap_setCell _ _ _ _ (fun h => hQR h.symm)).trans r2
            have O6 : Hid ((w5.setCell ⟨Q, 6, none⟩ (.slice sa (k + 1) sc)).ownsRow w.heap.size 40 6 (.slice sa (k + 1) sc) (k + 1) (lcells (ls ++ [(⟨d1, d2, d3, d4, c5, s6⟩ : Lg)]))) := own_else O5 (Pk.own_ne' O5 r1 (by decide))
            have HL2 : Hid ((ls ++ [(⟨d1, d2, d3, d4, c5, s6⟩ : Lg)]).length = k + 1) := by show _ = _; rw [List.length_append, HLK.out]; rfl
            clear G5 OS HG hi hy0 hy1 hy2 ND sD sQ sY CA KA hWs L5 r1 r2 C5 K5 O5 q6 v0 v1 v2 v3 v4 v5
            have hk9 := HKN.out
            go_wp2
            go_roundw
            case rel => exact ⟨k + 1, ls ++ [(⟨d1, d2, d3, d4, c5, s6⟩ : Lg)], sa, sc, by have := HKN.out; omega, by go_num, HL2.out, C6, K6, z6, x6, O6.out⟩
            case measure => have := HKN.out; simp [intOf]; omega
      · subst hlk
        have q0 : wr.cell? ⟨Q, 0, none⟩ = some (.int .i64 (1 + id)) := cell_at xR 0
        have b0 : wr.cell? ⟨w.heap.size, 0, none⟩ = some (.int .i64 0) := cell_at yR 0
        have f0 : wr.frozen? ⟨w.heap.size, 0, none⟩ = false := frozen_at yR 0
        have q1 : wr.cell? ⟨Q, 1, none⟩ = some (.string nm) := cell_at xR 1
        have b1 : wr.cell? ⟨w.heap.size, 1, none⟩ = some (.string ⟨#[]⟩) := cell_at yR 1
        have f1 : wr.frozen? ⟨w.heap.size, 1, none⟩ = false := frozen_at yR 1
        have q2 : wr.cell? ⟨Q, 2, none⟩ = some (.int .i64 (1 + cl)) := cell_at xR 2
        have b2 : wr.cell? ⟨w.heap.size, 2, none⟩ = some (.int .i64 0) := cell_at yR 2
        have f2 : wr.frozen? ⟨w.heap.size, 2, none⟩ = false := frozen_at yR 2
        have q3 : wr.cell? ⟨Q, 3, none⟩ = some (.int .i64 pr) := cell_at xR 3
        have b3 : wr.cell? ⟨w.heap.size, 3, none⟩ = some (.int .i64 0) := cell_at yR 3
        have f3 : wr.frozen? ⟨w.heap.size, 3, none⟩ = false := frozen_at yR 3
        have q4 : wr.cell? ⟨Q, 4, none⟩ = some (.int .i64 fi) := cell_at xR 4
        have b4 : wr.cell? ⟨w.heap.size, 4, none⟩ = some (.int .i64 0) := cell_at yR 4
        have f4 : wr.frozen? ⟨w.heap.size, 4, none⟩ = false := frozen_at yR 4
        have q5 : wr.cell? ⟨Q, 5, none⟩ = some (.int .i64 (fi + la)) := cell_at xR 5
        have b5 : wr.cell? ⟨w.heap.size, 5, none⟩ = some (.int .i64 0) := cell_at yR 5
        have f5 : wr.frozen? ⟨w.heap.size, 5, none⟩ = false := frozen_at yR 5
        have q6 : wr.cell? ⟨Q, 6, none⟩ = some (.slice va ls.length vc) := cell_at xR 6
        have b6 : wr.cell? ⟨w.heap.size, 6, none⟩ = some (.slice none 0 0) := cell_at yR 6
        have f6 : wr.frozen? ⟨w.heap.size, 6, none⟩ = false := frozen_at yR 6
        have hne := Pk.own_ne' OR yR (by decide)
        have hW0w : W0.heap.size ≤ w.heap.size := HCW.out.2
        have hkd : decide ((ls.length : Int) < 1 + (m9 : Int)) = false := decide_eq_false (by omega)
        have HO : Hid (wr.ownsRow w.heap.size 40 6 (.slice va ls.length vc) ls.length (lcells ls)) := OR
        go_wp2
        refine bodyPost_ret (v := tkV ⟨1 + id, 1 + cl, pr, fi, fi + la⟩ nm va ls.length vc) (by simp [results, Tryd.results27, go_sem, b0, b1, b2, b3, b4, b5, b6]) rfl ?_
        exact ⟨⟨_, nm, va, vc, ls, rfl, hnm, by omega, by omega, (own_else (i := 6) (own_else (i := 5) (own_else (i := 4) (own_else (i := 3) (own_else (i := 2) (own_else (i := 1) (own_else (i := 0) OR hne) hne) hne) hne) hne) hne) hne)⟩, (((((((CR.set w.heap.size 0 _ hRc hW0w).set w.heap.size 1 _ hRc hW0w).set w.heap.size 2 _ hRc hW0w).set w.heap.size 3 _ hRc hW0w).set w.heap.size 4 _ hRc hW0w).set w.heap.size 5 _ hRc hW0w).set w.heap.size 6 _ hRc hW0w), (((((((KR.set w.heap.size 0 _ (Nat.le_refl _)).set w.heap.size 1 _ (Nat.le_refl _)).set w.heap.size 2 _ (Nat.le_refl _)).set w.heap.size 3 _ (Nat.le_refl _)).set w.heap.size 4 _ (Nat.le_refl _)).set w.heap.size 5 _ (Nat.le_refl _)).set w.heap.size 6 _ (Nat.le_refl _))⟩

end Cur
end Go.Proofs.YtbfgfedblnldcaaDoor
