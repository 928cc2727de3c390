/- Draws for the laws of seats: a list of holds. -/
import Derived.Test.YtiollklighmojadCurTnB
import Derived.Test.YtiollklighmojadSeTake
import Derived.Test.YtiollklighmojadSeSeats
import Derived.Test.YtiollklighmojadSeBestI
import Derived.Deep.Cut
import Derived.Deep.CutRange
namespace Go.Proofs.Ytiollklighmojad
namespace Se
open Go.ChangeShapes Go.WideShapes Go.ChangeAt Go.RowKit
open Tn (Hd St trV trB Stops scells own_kb own_other)
open Pk (new_below join_below cell_at heap_new frozen_at lt_of kept heap_old info_of own_form own_below Room)
open Cur (Is Moved Bytes Kb new_any once_any below_any pickInt_any rowOf_new)
set_option linter.unusedSimpArgs false
set_option linter.unusedVariables false

theorem is_on {W0 : World} {a : Option Addr} {n cap c : Nat} {w w1 : World} (C : Is W0 a n cap c w) (L : Below w.heap.size w w1) : Is W0 a n cap c w1 := by
  refine ⟨C.below.trans (L.mono C.below.size), C.ge, Nat.lt_of_lt_of_le C.lt L.size, C.len, C.code, ?_, ?_, ?_, ?_, ?_⟩
  · rw [L.cell (p := ⟨c, 0, none⟩) C.lt]; exact C.cb
  · obtain ⟨i, h1, h2⟩ := C.ci
    exact ⟨i, h1, by rw [L.cell (p := ⟨c, 1, none⟩) C.lt]; exact h2⟩
  · obtain ⟨h0, h2⟩ := C.ch
    exact ⟨h0, by rw [L.cell (p := ⟨c, 2, none⟩) C.lt]; exact h2⟩
  · rw [L.frozen (p := ⟨c, 1, none⟩) C.lt]; exact C.fi
  · rw [L.frozen (p := ⟨c, 2, none⟩) C.lt]; exact C.fh

theorem Tbx.kb {w w1 : World} {B c : Nat} {t : Hd} {a : Option Addr} {n cap : Nat} (h : Tbx w B t a n cap) (K : Kb c w w1) (hB : B < w.heap.size) (hc : B ≠ c) : Tbx w1 B t a n cap := by
  have e := K.block B hB hc
  unfold Tbx
  rw [World.cell?_of_block (a := ⟨B, 0, none⟩) e, World.cell?_of_block (a := ⟨B, 1, none⟩) e, World.cell?_of_block (a := ⟨B, 2, none⟩) e, World.cell?_of_block (a := ⟨B, 3, none⟩) e, World.cell?_of_block (a := ⟨B, 4, none⟩) e]
  exact h

theorem kb_set7 {w w1 : World} {c X : Nat} {p : Hl} (K : Kb c w w1) (hX : w.heap.size ≤ X) : Kb c w (set7 w1 X p) := ((((((K.set X 0 _ hX).set X 1 _ hX).set X 2 _ hX).set X 3 _ hX).set X 4 _ hX).set X 5 _ hX).set X 6 _ hX

theorem is_set7 {W0 : World} {a : Option Addr} {n cap c X : Nat} {w : World} {p : Hl} (C : Is W0 a n cap c w) (hc : X ≠ c) (hW : W0.heap.size ≤ X) : Is W0 a n cap c (set7 w X p) := ((((((C.set X 0 _ hc hW).set X 1 _ hc hW).set X 2 _ hc hW).set X 3 _ hc hW).set X 4 _ hc hW).set X 5 _ hc hW).set X 6 _ hc hW

theorem Bw.moved {w w1 : World} {X c : Nat} {p : Hl} (h : Bw w X p) (M : Moved c w w1) (hc : X ≠ c) : Bw w1 X p := by
  have e := M.block X hc
  refine ⟨h.1.blk e, by rw [M.size]; exact h.2.1, fun i => ?_⟩
  rw [World.frozen?_of_block (a := ⟨X, i, none⟩) e]
  exact h.2.2 i

theorem own_setn {w : World} {base e g n cap i size : Nat} {xs : List Value} (h : w.ownsRow base e size (.slice (some ⟨g, 0, none⟩) n cap) n xs) (u : Value) : (w.setCell ⟨g, i, none⟩ u).ownsRow base e size (.slice (some ⟨g, 0, none⟩) n cap) n (xs.set i u) := by
  obtain ⟨hl, h2⟩ := h
  rcases h2 with ⟨hv, -⟩ | ⟨g', cap', cur, hv, hg, hh, h1, h3, h4, h5⟩
  · cases hv
  · simp only [Value.slice.injEq, Option.some.injEq, Addr.mk.injEq] at hv
    obtain ⟨⟨rfl, -⟩, -, rfl⟩ := hv
    refine ⟨by rw [List.length_set]; exact hl, Or.inr ⟨g, cap, _, rfl, hg, Tn.h_set hh u, h1, h3, by rw [Array.size_setIfInBounds]; exact h4, ?_⟩⟩
    rw [Array.toList_setIfInBounds, ← h5, List.take_set]

/-- A hold as it is drawn. -/
def good8 (p : Hl) : Prop := (5 ≤ p.dy ∧ p.dy ≤ 6) ∧ (1 ≤ p.co ∧ p.co ≤ 2) ∧ (1 ≤ p.se ∧ p.se ≤ 3) ∧ 0 ≤ p.ba ∧ (p.ba < p.be ∧ p.be ≤ 4) ∧ (1 ≤ p.od ∧ p.od ≤ 4) ∧ (1 ≤ p.tr ∧ p.tr ≤ 3)

/-- All numbers of a hold are such as an int holds, and its order is 7 at most. -/
structure W7 (p : Hl) : Prop where
  tr : WfI p.tr
  dy : WfI p.dy
  co : WfI p.co
  se : WfI p.se
  ba : WfI p.ba
  be : WfI p.be
  od : WfI p.od
  o7 : p.od ≤ 7

/-- All holds of a list are so. -/
def W7s (ps : List Hl) : Prop := ∀ p ∈ ps, W7 p

theorem W7s.wfs {l : List Hl} (h : W7s l) : Wfs l := fun p hp => ⟨(h p hp).tr, (h p hp).dy, (h p hp).co, (h p hp).se, (h p hp).ba, (h p hp).be, (h p hp).od⟩

theorem w7s_snoc {l : List Hl} {p : Hl} (h : W7s l) (hp : W7 p) : W7s (l ++ [p]) := by
  intro q hq
  rw [List.mem_append, List.mem_singleton] at hq
  rcases hq with hq | rfl
  · exact h q hq
  · exact hp

theorem good_wf {p : Hl} (h : good8 p) : W7 p := by
  obtain ⟨h1, h2, h3, h4, h5, h6, h7⟩ := h
  exact ⟨wfI (by omega), wfI (by omega), wfI (by omega), wfI (by omega), wfI (by omega), wfI (by omega), wfI (by omega), by omega⟩

theorem good_ok {p : Hl} (h : good8 p) : holdB p = true := by
  obtain ⟨h1, h2, h3, h4, h5, h6, h7⟩ := h
  simp only [holdB, kyB, key, Bool.and_eq_true, in_is, st_is, decide_eq_true_eq]
  omega

theorem tk_ne {l : List Hl} {p : Hl} (h : good8 p) : tkL l p ≠ [] := by
  cases l with
  | nil =>
    have hb : holdsB ([] ++ [p]) = true := by
      simp [holdsB, okR, good_ok h, freeB]
    unfold tkL
    rw [if_pos hb]
    simp
  | cons q l =>
    unfold tkL
    split <;> simp

theorem tk_wf {l : List Hl} {p : Hl} (h : W7s l) (hp : W7 p) : W7s (tkL l p) := by
  unfold tkL
  split
  · exact w7s_snoc h hp
  · exact h

theorem tk_le (l : List Hl) (p : Hl) : (tkL l p).length ≤ l.length + 1 := by
  unfold tkL
  split <;> simp

set_option maxRecDepth 100000 in
set_option maxHeartbeats 8000000 in
theorem holds8_any {W0 : World} {a : Option Addr} {n cap c : Nat} {w : World} (C : Is W0 a n cap c w) (t : Hd) (ta : Option Addr) (ls : List St) (tc : Nat) (hid : 1 ≤ t.id ∧ t.id ≤ 3) (hco : 1 ≤ t.co ∧ t.co ≤ 2) (hse : 1 ≤ t.se ∧ t.se ≤ 3) (hl1 : 2 ≤ ls.length) (hl2 : ls.length ≤ 5) :
    Calls Try.prog 111 #[.pointer (some ⟨c, 0, none⟩), trV t ta ls.length tc] w fun e w' => (∃ (l : List Hl) (g vc : Nat), e = .returned (.slice (some ⟨g, 0, none⟩) l.length vc) ∧ w'.ownsRow w.heap.size 77 7 (.slice (some ⟨g, 0, none⟩) l.length vc) l.length (hcells l) ∧ W7s l ∧ l.length ≤ 401) ∧ Is W0 a n cap c w' ∧ Kb c w w' := by
  obtain ⟨i0, hi, hz0, hz1, hz2⟩ := info_of info_hold
  have hcw := C.lt
  have hW0 : W0.heap.size ≤ w.heap.size := C.below.size
  have hBc : w.heap.size ≠ c := by omega
  have e1 : (w.alloc (trB t ta ls.length tc 26)).heap.size = w.heap.size + 1 := Array.size_push ..
  have T1 : Tbx (w.alloc (trB t ta ls.length tc 26)) w.heap.size t ta ls.length tc := Tbx.of (heap_new _ _)
  have T2 : Tbx ((w.alloc (trB t ta ls.length tc 26)).alloc (.cells #[] 77)) w.heap.size t ta ls.length tc := T1.on (new_below _ _) (by omega)
  have C2 := (C.alloc (trB t ta ls.length tc 26)).alloc (.cells #[] 77)
  have KB : Kb c w ((w.alloc (trB t ta ls.length tc 26)).alloc (.cells #[] 77)) := ((Kb.refl c w).alloc _).alloc _
  have O2 := nil_own (w.alloc (trB t ta ls.length tc 26)) 77
  have hBz2 : w.heap.size < ((w.alloc (trB t ta ls.length tc 26)).alloc (.cells #[] 77)).heap.size := by have := (new_below (w.alloc (trB t ta ls.length tc 26)) (.cells #[] 77)).size; omega
  rw [e1] at O2
  clear T1 e1
  go_enter Try.func111, Try.ntmps111
  go_wp2_with fail
  refine (below_any C2 10).mono ?_
  generalize (w.alloc (trB t ta ls.length tc 26)).alloc (.cells #[] 77) = WB at *
  rintro e w3 ⟨⟨x0, rfl, hx0, hx1⟩, C3, M3⟩
  have hx2 := hx1 (by omega)
  obtain ⟨m, rfl⟩ : ∃ m : Nat, x0 = m := ⟨x0.toNat, by omega⟩
  have K3 := Kb.moved M3
  have O3 := Cur.owns_moved O2 M3 (by omega)
  have HTB : Hid (Tbx WB w.heap.size t ta ls.length tc) := T2
  clear hx0 hx1 C2 M3 O2 T2
  go_wp2
  go_loopw [5, 7] (fun v i wr => ∃ (k : Nat) (l : List Hl) (g vc : Nat), k ≤ m ∧ i = .int .i64 k ∧ v = .slice (some ⟨g, 0, none⟩) l.length vc ∧ l.length ≤ k ∧ Is W0 a n cap c wr ∧ Kb c WB wr ∧ Hid (wr.ownsRow (w.heap.size + 1) 77 7 (.slice (some ⟨g, 0, none⟩) l.length vc) l.length (hcells l)) ∧ Hid (W7s l)) (fun _ i _ => m - (intOf i).toNat)
  case atStart => exact ⟨0, [], w.heap.size + 1, 0, by omega, rfl, rfl, by simp, C3, K3, O3, fun p hp => by simp at hp⟩
  case round =>
    obtain ⟨k, l, g, vc, hk, rfl, rfl, hlk, Cr, Kr, HO, HW⟩ := hrel
    have HT : Hid (Tbx wr w.heap.size t ta ls.length tc) := HTB.out.kb Kr hBz2 hBc
    have hBz : w.heap.size < wr.heap.size := Nat.lt_of_lt_of_le hBz2 Kr.size
    by_cases hkm : k < m
    · obtain ⟨s0, s1, s2, s3, s4⟩ := HT.out
      clear C3 K3 O3
      go_wp2_with fail
      refine (below_any Cr _).mono ?_
      rintro e w6 ⟨⟨av, rfl, hav0, hav1⟩, C6, M6⟩
      have hav2 := hav1 (by omega)
      have K6 := Kb.moved M6
      clear hav1 s0 s1 s2 s3 s4
      obtain ⟨e1, he1⟩ : ∃ d : Int, av + 1 = d := ⟨_, rfl⟩
      have qe1a : wrap64 (av + 1) = e1 := by rw [he1]; unfold wrap64; omega
      have qe1b : IntKind.i64.wrap (av + 1) = e1 := by rw [he1, IntKind.wrap_i64]; omega
      obtain ⟨m1, hm1⟩ : ∃ d : Int, (ls.length : Int) - 1 = d := ⟨_, rfl⟩
      have qm1a : wrap64 ((ls.length : Int) - 1) = m1 := by rw [hm1]; unfold wrap64; omega
      have qm1b : IntKind.i64.wrap ((ls.length : Int) - 1) = m1 := by rw [hm1, IntKind.wrap_i64]; omega
      obtain ⟨r1, hr1'⟩ : ∃ d : Int, m1 - av = d := ⟨_, rfl⟩
      have qr1a : wrap64 (m1 - av) = r1 := by rw [hr1']; unfold wrap64; omega
      have qr1b : IntKind.i64.wrap (m1 - av) = r1 := by rw [hr1', IntKind.wrap_i64]; omega
      have hr1 : 0 < r1 := by omega
      have hm1v : m1 ≤ 4 := by omega
      have her : e1 + r1 = m1 + 1 := by omega
      have hae : av < e1 := by omega
      clear he1 hm1 hr1'
      go_wp2
      go_cut [9] from 15 to 63 (fun s9 wc => ∃ X p, s9 = .pointer (some ⟨X, 0, none⟩) ∧ Hid (Bw wc X p) ∧ wr.heap.size ≤ X ∧ Hid (good8 p) ∧ Is W0 a n cap c wc ∧ Kb c wr wc)
      case first =>
        have K0 : Kb c wr (World.drew w6) := K6.drew
        have C0 : Is W0 a n cap c (World.drew w6) := C6.drewN 1
        refine wp_region_held_drew (S := (fun w' => Tbx w' w.heap.size t ta ls.length tc)) (by kernel_rfl) ?_ (fun hHeld => ?_)
        · exact HT.out.kb K0 hBz hBc
        refine wpAnyH_take (i := 0) (v := .pointer (some ⟨w.heap.size, 0, none⟩)) rfl (by kernel_rfl) (by kernel_rfl) (by kernel_rfl) (fun _ _ _ h => h) (Or.inl ⟨by kernel_rfl, fun w hSw => by first | (go_simp; done) | (dsimp only at hSw; obtain ⟨s0, s1, s2, s3, s4⟩ := hSw; go_simp; done) | rfl⟩) (by assumption) ?_
        simp only [Act.put, List.getElem_toArray, List.getElem_cons_succ, List.getElem_cons_zero, List.setIfInBounds_toArray, List.set_cons_succ, List.set_cons_zero]
        refine wpAnyH_take (i := 1) (v := .int .i64 t.id) rfl (by kernel_rfl) (by kernel_rfl) (by kernel_rfl) (fun _ _ _ h => h) (Or.inl ⟨by kernel_rfl, fun w hSw => by first | (go_simp; done) | (dsimp only at hSw; obtain ⟨s0, s1, s2, s3, s4⟩ := hSw; go_simp; done) | rfl⟩) (by assumption) ?_
        simp only [Act.put, List.getElem_toArray, List.getElem_cons_succ, List.getElem_cons_zero, List.setIfInBounds_toArray, List.set_cons_succ, List.set_cons_zero]
        refine wpAnyH_take (i := 2) (v := .pointer (some ⟨c, 0, none⟩)) rfl (by kernel_rfl) (by kernel_rfl) (by kernel_rfl) (fun _ _ _ h => h) (Or.inl ⟨by kernel_rfl, fun w hSw => by first | (go_simp; done) | (dsimp only at hSw; obtain ⟨s0, s1, s2, s3, s4⟩ := hSw; go_simp; done) | rfl⟩) (by assumption) ?_
        simp only [Act.put, List.getElem_toArray, List.getElem_cons_succ, List.getElem_cons_zero, List.setIfInBounds_toArray, List.set_cons_succ, List.set_cons_zero]
        refine wpAnyH_take (i := 5) (v := .pointer (some ⟨c, 0, none⟩)) rfl (by kernel_rfl) (by kernel_rfl) (by kernel_rfl) (fun _ _ _ h => h) (Or.inl ⟨by kernel_rfl, fun w hSw => by first | (go_simp; done) | (dsimp only at hSw; obtain ⟨s0, s1, s2, s3, s4⟩ := hSw; go_simp; done) | rfl⟩) (by assumption) ?_
        simp only [Act.put, List.getElem_toArray, List.getElem_cons_succ, List.getElem_cons_zero, List.setIfInBounds_toArray, List.set_cons_succ, List.set_cons_zero]
        refine wpAnyH_take (i := 6) (v := .pointer (some ⟨w.heap.size, 2, none⟩)) rfl (by kernel_rfl) (by kernel_rfl) (by kernel_rfl) (fun _ _ _ h => h) (Or.inl ⟨by kernel_rfl, fun w hSw => by first | (go_simp; done) | (dsimp only at hSw; obtain ⟨s0, s1, s2, s3, s4⟩ := hSw; go_simp; done) | rfl⟩) (by assumption) ?_
        simp only [Act.put, List.getElem_toArray, List.getElem_cons_succ, List.getElem_cons_zero, List.setIfInBounds_toArray, List.set_cons_succ, List.set_cons_zero]
        refine wpAnyH_take (i := 7) (v := .int .i64 t.co) rfl (by kernel_rfl) (by kernel_rfl) (by kernel_rfl) (fun _ _ _ h => h) (Or.inl ⟨by kernel_rfl, fun w hSw => by first | (go_simp; done) | (dsimp only at hSw; obtain ⟨s0, s1, s2, s3, s4⟩ := hSw; go_simp; done) | rfl⟩) (by assumption) ?_
        simp only [Act.put, List.getElem_toArray, List.getElem_cons_succ, List.getElem_cons_zero, List.setIfInBounds_toArray, List.set_cons_succ, List.set_cons_zero]
        refine wpAnyH_take (i := 10) (v := .pointer (some ⟨c, 0, none⟩)) rfl (by kernel_rfl) (by kernel_rfl) (by kernel_rfl) (fun _ _ _ h => h) (Or.inl ⟨by kernel_rfl, fun w hSw => by first | (go_simp; done) | (dsimp only at hSw; obtain ⟨s0, s1, s2, s3, s4⟩ := hSw; go_simp; done) | rfl⟩) (by assumption) ?_
        simp only [Act.put, List.getElem_toArray, List.getElem_cons_succ, List.getElem_cons_zero, List.setIfInBounds_toArray, List.set_cons_succ, List.set_cons_zero]
        refine wpAnyH_take (i := 11) (v := .pointer (some ⟨w.heap.size, 3, none⟩)) rfl (by kernel_rfl) (by kernel_rfl) (by kernel_rfl) (fun _ _ _ h => h) (Or.inl ⟨by kernel_rfl, fun w hSw => by first | (go_simp; done) | (dsimp only at hSw; obtain ⟨s0, s1, s2, s3, s4⟩ := hSw; go_simp; done) | rfl⟩) (by assumption) ?_
        simp only [Act.put, List.getElem_toArray, List.getElem_cons_succ, List.getElem_cons_zero, List.setIfInBounds_toArray, List.set_cons_succ, List.set_cons_zero]
        refine wpAnyH_take (i := 12) (v := .int .i64 t.se) rfl (by kernel_rfl) (by kernel_rfl) (by kernel_rfl) (fun _ _ _ h => h) (Or.inl ⟨by kernel_rfl, fun w hSw => by first | (go_simp; done) | (dsimp only at hSw; obtain ⟨s0, s1, s2, s3, s4⟩ := hSw; go_simp; done) | rfl⟩) (by assumption) ?_
        simp only [Act.put, List.getElem_toArray, List.getElem_cons_succ, List.getElem_cons_zero, List.setIfInBounds_toArray, List.set_cons_succ, List.set_cons_zero]
        refine wpAnyH_take (i := 15) (v := .int .i64 av) rfl (by kernel_rfl) (by kernel_rfl) (by kernel_rfl) (fun _ _ _ h => h) (Or.inl ⟨by kernel_rfl, fun w hSw => by first | (go_simp; done) | (dsimp only at hSw; obtain ⟨s0, s1, s2, s3, s4⟩ := hSw; go_simp; done) | rfl⟩) (by assumption) ?_
        simp only [Act.put, List.getElem_toArray, List.getElem_cons_succ, List.getElem_cons_zero, List.setIfInBounds_toArray, List.set_cons_succ, List.set_cons_zero]
        refine wpAnyH_take (i := 16) (v := .int .i64 av) rfl (by kernel_rfl) (by kernel_rfl) (by kernel_rfl) (fun _ _ _ h => h) (Or.inl ⟨by kernel_rfl, fun w hSw => by first | (go_simp; done) | (dsimp only at hSw; obtain ⟨s0, s1, s2, s3, s4⟩ := hSw; go_simp; done) | rfl⟩) (by assumption) ?_
        simp only [Act.put, List.getElem_toArray, List.getElem_cons_succ, List.getElem_cons_zero, List.setIfInBounds_toArray, List.set_cons_succ, List.set_cons_zero]
        refine wpAnyH_take (i := 17) (v := .int .i64 e1) rfl (by kernel_rfl) (by kernel_rfl) (by kernel_rfl) (fun _ _ _ h => h) (Or.inl ⟨by kernel_rfl, fun w hSw => by first | (go_simp; done) | (dsimp only at hSw; obtain ⟨s0, s1, s2, s3, s4⟩ := hSw; go_simp; done) | rfl⟩) (by assumption) ?_
        simp only [Act.put, List.getElem_toArray, List.getElem_cons_succ, List.getElem_cons_zero, List.setIfInBounds_toArray, List.set_cons_succ, List.set_cons_zero]
        refine wpAnyH_take (i := 18) (v := .pointer (some ⟨c, 0, none⟩)) rfl (by kernel_rfl) (by kernel_rfl) (by kernel_rfl) (fun _ _ _ h => h) (Or.inl ⟨by kernel_rfl, fun w hSw => by first | (go_simp; done) | (dsimp only at hSw; obtain ⟨s0, s1, s2, s3, s4⟩ := hSw; go_simp; done) | rfl⟩) (by assumption) ?_
        simp only [Act.put, List.getElem_toArray, List.getElem_cons_succ, List.getElem_cons_zero, List.setIfInBounds_toArray, List.set_cons_succ, List.set_cons_zero]
        refine wpAnyH_take (i := 19) (v := .pointer (some ⟨w.heap.size, 4, none⟩)) rfl (by kernel_rfl) (by kernel_rfl) (by kernel_rfl) (fun _ _ _ h => h) (Or.inl ⟨by kernel_rfl, fun w hSw => by first | (go_simp; done) | (dsimp only at hSw; obtain ⟨s0, s1, s2, s3, s4⟩ := hSw; go_simp; done) | rfl⟩) (by assumption) ?_
        simp only [Act.put, List.getElem_toArray, List.getElem_cons_succ, List.getElem_cons_zero, List.setIfInBounds_toArray, List.set_cons_succ, List.set_cons_zero]
        refine wpAnyH_take (i := 20) (v := .slice ta ls.length tc) rfl (by kernel_rfl) (by kernel_rfl) (by kernel_rfl) (fun _ _ _ h => h) (Or.inl ⟨by kernel_rfl, fun w hSw => by first | (go_simp; done) | (dsimp only at hSw; obtain ⟨s0, s1, s2, s3, s4⟩ := hSw; go_simp; done) | rfl⟩) (by assumption) ?_
        simp only [Act.put, List.getElem_toArray, List.getElem_cons_succ, List.getElem_cons_zero, List.setIfInBounds_toArray, List.set_cons_succ, List.set_cons_zero]
        refine wpAnyH_take (i := 21) (v := .int .i64 (ls.length : Int)) rfl (by kernel_rfl) (by kernel_rfl) (by kernel_rfl) (fun _ _ _ h => h) (Or.inl ⟨by kernel_rfl, fun w hSw => by first | (go_simp; done) | (dsimp only at hSw; obtain ⟨s0, s1, s2, s3, s4⟩ := hSw; go_simp; done) | rfl⟩) (by assumption) ?_
        simp only [Act.put, List.getElem_toArray, List.getElem_cons_succ, List.getElem_cons_zero, List.setIfInBounds_toArray, List.set_cons_succ, List.set_cons_zero]
        refine wpAnyH_take (i := 22) (v := .int .i64 m1) rfl (by kernel_rfl) (by kernel_rfl) (by kernel_rfl) (fun _ _ _ h => h) (Or.inl ⟨by kernel_rfl, fun w hSw => by first | (go_simp; done) | (dsimp only at hSw; obtain ⟨s0, s1, s2, s3, s4⟩ := hSw; go_simp; done) | rfl⟩) (by assumption) ?_
        simp only [Act.put, List.getElem_toArray, List.getElem_cons_succ, List.getElem_cons_zero, List.setIfInBounds_toArray, List.set_cons_succ, List.set_cons_zero]
        refine wpAnyH_take (i := 23) (v := .int .i64 av) rfl (by kernel_rfl) (by kernel_rfl) (by kernel_rfl) (fun _ _ _ h => h) (Or.inl ⟨by kernel_rfl, fun w hSw => by first | (go_simp; done) | (dsimp only at hSw; obtain ⟨s0, s1, s2, s3, s4⟩ := hSw; go_simp; done) | rfl⟩) (by assumption) ?_
        simp only [Act.put, List.getElem_toArray, List.getElem_cons_succ, List.getElem_cons_zero, List.setIfInBounds_toArray, List.set_cons_succ, List.set_cons_zero]
        refine wpAnyH_take (i := 24) (v := .int .i64 r1) rfl (by kernel_rfl) (by kernel_rfl) (by kernel_rfl) (fun _ _ _ h => h) (Or.inl ⟨by kernel_rfl, fun w hSw => by first | (go_simp; done) | (dsimp only at hSw; obtain ⟨s0, s1, s2, s3, s4⟩ := hSw; go_simp; done) | rfl⟩) (by assumption) ?_
        simp only [Act.put, List.getElem_toArray, List.getElem_cons_succ, List.getElem_cons_zero, List.setIfInBounds_toArray, List.set_cons_succ, List.set_cons_zero]
        refine wpAnyH_take (i := 27) (v := .pointer (some ⟨c, 0, none⟩)) rfl (by kernel_rfl) (by kernel_rfl) (by kernel_rfl) (fun _ _ _ h => h) (Or.inl ⟨by kernel_rfl, fun w hSw => by first | (go_simp; done) | (dsimp only at hSw; obtain ⟨s0, s1, s2, s3, s4⟩ := hSw; go_simp; done) | rfl⟩) (by assumption) ?_
        simp only [Act.put, List.getElem_toArray, List.getElem_cons_succ, List.getElem_cons_zero, List.setIfInBounds_toArray, List.set_cons_succ, List.set_cons_zero]
        generalize World.drew w6 = w7 at *
        refine wpAnyH_ready (rs := [3, 31]) (by kernel_rfl) (by simp) ?_
        refine AllReadyH.cons rfl (fun K hK => ?_) (AllReadyH.cons rfl (fun K hK => ?_) (AllReadyH.nil))
        · go_simp
          go_wp2_with (go_at_call 69; (with_reducible refine (below_any C0 (2)).mono ?_); rintro e w1 ⟨⟨x1, rfl, hx1a, hx1b⟩, C1, M1⟩)
          have K1 := K0.trans (Kb.moved M1)
          refine hK.out _ _ ?_ (fun hHeld2 => ?_)
          · exact HT.out.kb (K1) hBz hBc
          clear hK K hHeld
          have hHeld := hHeld2
          clear hHeld2
          have hx1c := hx1b (by omega)
          obtain ⟨d1, hd1⟩ : ∃ d : Int, 5 + x1 = d := ⟨_, rfl⟩
          have qd1a : wrap64 (5 + x1) = d1 := by rw [hd1]; unfold wrap64; omega
          have qd1b : IntKind.i64.wrap (5 + x1) = d1 := by rw [hd1, IntKind.wrap_i64]; omega
          have gd1 : Hid (5 ≤ d1 ∧ d1 ≤ 6) := ⟨by omega, by omega⟩
          clear hd1 hx1a hx1b hx1c
          refine wpAnyH_take (i := 4) (v := .int .i64 d1) rfl (by kernel_rfl) (by kernel_rfl) (by kernel_rfl) (fun _ _ _ h => h) (Or.inl ⟨by kernel_rfl, fun w hSw => by first | (go_simp; done) | (dsimp only at hSw; obtain ⟨s0, s1, s2, s3, s4⟩ := hSw; go_simp; done) | rfl⟩) (by assumption) ?_
          simp only [Act.put, List.getElem_toArray, List.getElem_cons_succ, List.getElem_cons_zero, List.setIfInBounds_toArray, List.set_cons_succ, List.set_cons_zero]
          clear qd1a qd1b
          refine wpAnyH_ready (rs := [8, 31]) (by kernel_rfl) (by simp) ?_
          refine AllReadyH.cons rfl (fun K hK => ?_) (AllReadyH.cons rfl (fun K hK => ?_) (AllReadyH.nil))
          · go_simp
            go_wp2_with (go_at_call 69; (with_reducible refine (below_any C1 (t.co)).mono ?_); rintro e w2 ⟨⟨x2, rfl, hx2a, hx2b⟩, C2, M2⟩)
            have K2 := K1.trans (Kb.moved M2)
            refine hK.out _ _ ?_ (fun hHeld2 => ?_)
            · exact HT.out.kb (K2) hBz hBc
            clear hK K hHeld
            have hHeld := hHeld2
            clear hHeld2
            have hx2c := hx2b (by omega)
            obtain ⟨d2, hd2⟩ : ∃ d : Int, 1 + x2 = d := ⟨_, rfl⟩
            have qd2a : wrap64 (1 + x2) = d2 := by rw [hd2]; unfold wrap64; omega
            have qd2b : IntKind.i64.wrap (1 + x2) = d2 := by rw [hd2, IntKind.wrap_i64]; omega
            have gd2 : Hid (1 ≤ d2 ∧ d2 ≤ 2) := ⟨by omega, by omega⟩
            clear hd2 hx2a hx2b hx2c
            refine wpAnyH_take (i := 9) (v := .int .i64 d2) rfl (by kernel_rfl) (by kernel_rfl) (by kernel_rfl) (fun _ _ _ h => h) (Or.inl ⟨by kernel_rfl, fun w hSw => by first | (go_simp; done) | (dsimp only at hSw; obtain ⟨s0, s1, s2, s3, s4⟩ := hSw; go_simp; done) | rfl⟩) (by assumption) ?_
            simp only [Act.put, List.getElem_toArray, List.getElem_cons_succ, List.getElem_cons_zero, List.setIfInBounds_toArray, List.set_cons_succ, List.set_cons_zero]
            clear qd2a qd2b
            refine wpAnyH_ready (rs := [13, 31]) (by kernel_rfl) (by simp) ?_
            refine AllReadyH.cons rfl (fun K hK => ?_) (AllReadyH.cons rfl (fun K hK => ?_) (AllReadyH.nil))
            · go_simp
              go_wp2_with (go_at_call 69; (with_reducible refine (below_any C2 (t.se)).mono ?_); rintro e w3 ⟨⟨x3, rfl, hx3a, hx3b⟩, C3, M3⟩)
              have K3 := K2.trans (Kb.moved M3)
              refine hK.out _ _ ?_ (fun hHeld2 => ?_)
              · exact HT.out.kb (K3) hBz hBc
              clear hK K hHeld
              have hHeld := hHeld2
              clear hHeld2
              have hx3c := hx3b (by omega)
              obtain ⟨d3, hd3⟩ : ∃ d : Int, 1 + x3 = d := ⟨_, rfl⟩
              have qd3a : wrap64 (1 + x3) = d3 := by rw [hd3]; unfold wrap64; omega
              have qd3b : IntKind.i64.wrap (1 + x3) = d3 := by rw [hd3, IntKind.wrap_i64]; omega
              have gd3 : Hid (1 ≤ d3 ∧ d3 ≤ 3) := ⟨by omega, by omega⟩
              clear hd3 hx3a hx3b hx3c
              refine wpAnyH_take (i := 14) (v := .int .i64 d3) rfl (by kernel_rfl) (by kernel_rfl) (by kernel_rfl) (fun _ _ _ h => h) (Or.inl ⟨by kernel_rfl, fun w hSw => by first | (go_simp; done) | (dsimp only at hSw; obtain ⟨s0, s1, s2, s3, s4⟩ := hSw; go_simp; done) | rfl⟩) (by assumption) ?_
              simp only [Act.put, List.getElem_toArray, List.getElem_cons_succ, List.getElem_cons_zero, List.setIfInBounds_toArray, List.set_cons_succ, List.set_cons_zero]
              clear qd3a qd3b
              refine wpAnyH_ready (rs := [25, 31]) (by kernel_rfl) (by simp) ?_
              refine AllReadyH.cons rfl (fun K hK => ?_) (AllReadyH.cons rfl (fun K hK => ?_) (AllReadyH.nil))
              · go_simp
                go_wp2_with (go_at_call 69; (with_reducible refine (below_any C3 (r1)).mono ?_); rintro e w4 ⟨⟨x4, rfl, hx4a, hx4b⟩, C4, M4⟩)
                have K4 := K3.trans (Kb.moved M4)
                refine hK.out _ _ ?_ (fun hHeld2 => ?_)
                · exact HT.out.kb (K4) hBz hBc
                clear hK K hHeld
                have hHeld := hHeld2
                clear hHeld2
                have hx4c := hx4b (by omega)
                obtain ⟨d4, hd4⟩ : ∃ d : Int, e1 + x4 = d := ⟨_, rfl⟩
                have qd4a : wrap64 (e1 + x4) = d4 := by rw [hd4]; unfold wrap64; omega
                have qd4b : IntKind.i64.wrap (e1 + x4) = d4 := by rw [hd4, IntKind.wrap_i64]; omega
                have gd4 : Hid (av < d4 ∧ d4 ≤ 4) := ⟨by omega, by omega⟩
                clear hd4 hx4a hx4b hx4c
                refine wpAnyH_take (i := 26) (v := .int .i64 d4) rfl (by kernel_rfl) (by kernel_rfl) (by kernel_rfl) (fun _ _ _ h => h) (Or.inl ⟨by kernel_rfl, fun w hSw => by first | (go_simp; done) | (dsimp only at hSw; obtain ⟨s0, s1, s2, s3, s4⟩ := hSw; go_simp; done) | rfl⟩) (by assumption) ?_
                simp only [Act.put, List.getElem_toArray, List.getElem_cons_succ, List.getElem_cons_zero, List.setIfInBounds_toArray, List.set_cons_succ, List.set_cons_zero]
                clear qd4a qd4b
                refine wpAnyH_ready (rs := [28, 31]) (by kernel_rfl) (by simp) ?_
                refine AllReadyH.cons rfl (fun K hK => ?_) (AllReadyH.cons rfl (fun K hK => ?_) (AllReadyH.nil))
                · go_simp
                  go_wp2_with (go_at_call 69; (with_reducible refine (below_any C4 (4)).mono ?_); rintro e w5 ⟨⟨x5, rfl, hx5a, hx5b⟩, C5, M5⟩)
                  have K5 := K4.trans (Kb.moved M5)
                  refine hK.out _ _ ?_ (fun hHeld2 => ?_)
                  · exact HT.out.kb (K5) hBz hBc
                  clear hK K hHeld
                  have hHeld := hHeld2
                  clear hHeld2
                  have hx5c := hx5b (by omega)
                  obtain ⟨d5, hd5⟩ : ∃ d : Int, 1 + x5 = d := ⟨_, rfl⟩
                  have qd5a : wrap64 (1 + x5) = d5 := by rw [hd5]; unfold wrap64; omega
                  have qd5b : IntKind.i64.wrap (1 + x5) = d5 := by rw [hd5, IntKind.wrap_i64]; omega
                  have gd5 : Hid (1 ≤ d5 ∧ d5 ≤ 4) := ⟨by omega, by omega⟩
                  clear hd5 hx5a hx5b hx5c
                  refine wpAnyH_take (i := 29) (v := .int .i64 d5) rfl (by kernel_rfl) (by kernel_rfl) (by kernel_rfl) (fun _ _ _ h => h) (Or.inl ⟨by kernel_rfl, fun w hSw => by first | (go_simp; done) | (dsimp only at hSw; obtain ⟨s0, s1, s2, s3, s4⟩ := hSw; go_simp; done) | rfl⟩) (by assumption) ?_
                  simp only [Act.put, List.getElem_toArray, List.getElem_cons_succ, List.getElem_cons_zero, List.setIfInBounds_toArray, List.set_cons_succ, List.set_cons_zero]
                  clear qd5a qd5b
                  have hgood : good8 ⟨t.id, d1, d2, d3, av, d4, d5⟩ := ⟨gd1.out, gd2.out, gd3.out, hav0, gd4.out, gd5.out, hid⟩
                  refine wpAnyH_take (i := 30) (v := .agg #[.int .i64 t.id, .int .i64 d1, .int .i64 d2, .int .i64 d3, .int .i64 av, .int .i64 d4, .int .i64 d5]) rfl (by kernel_rfl) (by kernel_rfl) (by kernel_rfl) (fun _ _ _ h => h) (Or.inl ⟨by kernel_rfl, fun w hSw => by first | (go_simp; done) | (dsimp only at hSw; obtain ⟨s0, s1, s2, s3, s4⟩ := hSw; go_simp; done) | rfl⟩) (by assumption) ?_
                  simp only [Act.put, List.getElem_toArray, List.getElem_cons_succ, List.getElem_cons_zero, List.setIfInBounds_toArray, List.set_cons_succ, List.set_cons_zero]
                  refine wpAnyH_ready (rs := [31]) (by kernel_rfl) (by simp) ?_
                  refine AllReadyH.cons rfl (fun K hK => ?_) (AllReadyH.nil)
                  go_simp
                  have K6 : Kb c wr (w5.alloc (.cells #[.int .i64 0, .int .i64 0, .int .i64 0, .int .i64 0, .int .i64 0, .int .i64 0, .int .i64 0] 77)) := K5.alloc _
                  have C6 := C5.alloc (.cells #[.int .i64 0, .int .i64 0, .int .i64 0, .int .i64 0, .int .i64 0, .int .i64 0, .int .i64 0] 77)
                  have X6 := (show Bw (w5.alloc (.cells #[.int .i64 0, .int .i64 0, .int .i64 0, .int .i64 0, .int .i64 0, .int .i64 0, .int .i64 0] 77)) w5.heap.size zH from Bw.new w5 zH 77)
                  have hXw : wr.heap.size ≤ w5.heap.size := K5.size
                  have hXc : w5.heap.size ≠ c := by have := C5.lt; omega
                  have hXW : W0.heap.size ≤ w5.heap.size := C5.below.size
                  refine hK.out _ _ ?_ (fun hHeld2 => ?_)
                  · exact HT.out.kb (K6) hBz hBc
                  clear hK K hHeld
                  have hHeld := hHeld2
                  clear hHeld2
                  obtain ⟨X, hXe⟩ : ∃ X, w5.heap.size = X := ⟨_, rfl⟩
                  rw [hXe] at X6 hXw hXc hXW
                  try rw [hXe]
                  clear hXe
                  generalize w5.alloc (.cells #[.int .i64 0, .int .i64 0, .int .i64 0, .int .i64 0, .int .i64 0, .int .i64 0, .int .i64 0] 77) = w6 at *
                  have XX : Hid (Bw _ _ _) := X6
                  obtain ⟨⟨z0, z1, z2, z3, z4, z5, z6⟩, hXz, fz⟩ := X6
                  simp only [zH] at z0 z1 z2 z3 z4 z5 z6
                  have fz0 := fz 0
                  have fz1 := fz 1
                  have fz2 := fz 2
                  have fz3 := fz 3
                  have fz4 := fz 4
                  have fz5 := fz 5
                  have fz6 := fz 6
                  refine wpAnyH_ready (rs := [32]) (by kernel_rfl) (by simp) ?_
                  refine AllReadyH.cons rfl (fun K hK => ?_) (AllReadyH.nil)
                  go_simp
                  have K9 : Kb c wr (((((((w6.setCell ⟨X, 0, none⟩ (.int .i64 t.id)).setCell ⟨X, 1, none⟩ (.int .i64 d1)).setCell ⟨X, 2, none⟩ (.int .i64 d2)).setCell ⟨X, 3, none⟩ (.int .i64 d3)).setCell ⟨X, 4, none⟩ (.int .i64 av)).setCell ⟨X, 5, none⟩ (.int .i64 d4)).setCell ⟨X, 6, none⟩ (.int .i64 d5)) := kb_set7 (p := ⟨t.id, d1, d2, d3, av, d4, d5⟩) K6 hXw
                  have BS : Bw (((((((w6.setCell ⟨X, 0, none⟩ (.int .i64 t.id)).setCell ⟨X, 1, none⟩ (.int .i64 d1)).setCell ⟨X, 2, none⟩ (.int .i64 d2)).setCell ⟨X, 3, none⟩ (.int .i64 d3)).setCell ⟨X, 4, none⟩ (.int .i64 av)).setCell ⟨X, 5, none⟩ (.int .i64 d4)).setCell ⟨X, 6, none⟩ (.int .i64 d5)) X ⟨t.id, d1, d2, d3, av, d4, d5⟩ := Bw.set (p := ⟨t.id, d1, d2, d3, av, d4, d5⟩) XX.out
                  have IS : Is W0 a n cap c (((((((w6.setCell ⟨X, 0, none⟩ (.int .i64 t.id)).setCell ⟨X, 1, none⟩ (.int .i64 d1)).setCell ⟨X, 2, none⟩ (.int .i64 d2)).setCell ⟨X, 3, none⟩ (.int .i64 d3)).setCell ⟨X, 4, none⟩ (.int .i64 av)).setCell ⟨X, 5, none⟩ (.int .i64 d4)).setCell ⟨X, 6, none⟩ (.int .i64 d5)) := is_set7 (p := ⟨t.id, d1, d2, d3, av, d4, d5⟩) C6 hXc hXW
                  refine hK.out _ _ ?_ (fun hHeld2 => ?_)
                  · exact HT.out.kb (K9) hBz hBc
                  clear hK K hHeld
                  have hHeld := hHeld2
                  clear hHeld2
                  refine wpAnyH_done (by kernel_rfl) ?_ _
                  clear hHeld
                  go_wp2
                  go_meet
                  case rel =>
                    clear z0 z1 z2 z3 z4 z5 z6 fz fz0 fz1 fz2 fz3 fz4 fz5 fz6
                    refine ⟨X, ⟨t.id, d1, d2, d3, av, d4, d5⟩, rfl, ?_, hXw, hgood, ?_, ?_⟩
                    · show Bw _ _ _
                      with_reducible exact BS
                    · with_reducible exact IS
                    · with_reducible exact K9
                · go_simp
                  have K7 : Kb c wr (w4.alloc (.cells #[.int .i64 0, .int .i64 0, .int .i64 0, .int .i64 0, .int .i64 0, .int .i64 0, .int .i64 0] 77)) := K4.alloc _
                  have C7 := C4.alloc (.cells #[.int .i64 0, .int .i64 0, .int .i64 0, .int .i64 0, .int .i64 0, .int .i64 0, .int .i64 0] 77)
                  have X7 := (show Bw (w4.alloc (.cells #[.int .i64 0, .int .i64 0, .int .i64 0, .int .i64 0, .int .i64 0, .int .i64 0, .int .i64 0] 77)) w4.heap.size zH from Bw.new w4 zH 77)
                  have hXw : wr.heap.size ≤ w4.heap.size := K4.size
                  have hXc : w4.heap.size ≠ c := by have := C4.lt; omega
                  have hXW : W0.heap.size ≤ w4.heap.size := C4.below.size
                  refine hK.out _ _ ?_ (fun hHeld2 => ?_)
                  · exact HT.out.kb (K7) hBz hBc
                  clear hK K hHeld
                  have hHeld := hHeld2
                  clear hHeld2
                  obtain ⟨X, hXe⟩ : ∃ X, w4.heap.size = X := ⟨_, rfl⟩
                  rw [hXe] at X7 hXw hXc hXW
                  try rw [hXe]
                  clear hXe
                  generalize w4.alloc (.cells #[.int .i64 0, .int .i64 0, .int .i64 0, .int .i64 0, .int .i64 0, .int .i64 0, .int .i64 0] 77) = w7 at *
                  refine wpAnyH_ready (rs := [28]) (by kernel_rfl) (by simp) ?_
                  refine AllReadyH.cons rfl (fun K hK => ?_) (AllReadyH.nil)
                  go_simp
                  go_wp2_with (go_at_call 69; (with_reducible refine (below_any C7 (4)).mono ?_); rintro e w8 ⟨⟨x8, rfl, hx8a, hx8b⟩, C8, M8⟩)
                  have K8 := K7.trans (Kb.moved M8)
                  have X8 : Bw w8 X zH := Bw.moved X7 M8 hXc
                  refine hK.out _ _ ?_ (fun hHeld2 => ?_)
                  · exact HT.out.kb (K8) hBz hBc
                  clear hK K hHeld
                  have hHeld := hHeld2
                  clear hHeld2
                  have hx8c := hx8b (by omega)
                  obtain ⟨d5, hd5⟩ : ∃ d : Int, 1 + x8 = d := ⟨_, rfl⟩
                  have qd5a : wrap64 (1 + x8) = d5 := by rw [hd5]; unfold wrap64; omega
                  have qd5b : IntKind.i64.wrap (1 + x8) = d5 := by rw [hd5, IntKind.wrap_i64]; omega
                  have gd5 : Hid (1 ≤ d5 ∧ d5 ≤ 4) := ⟨by omega, by omega⟩
                  clear hd5 hx8a hx8b hx8c
                  refine wpAnyH_take (i := 29) (v := .int .i64 d5) rfl (by kernel_rfl) (by kernel_rfl) (by kernel_rfl) (fun _ _ _ h => h) (Or.inl ⟨by kernel_rfl, fun w hSw => by first | (go_simp; done) | (dsimp only at hSw; obtain ⟨s0, s1, s2, s3, s4⟩ := hSw; go_simp; done) | rfl⟩) (by assumption) ?_
                  simp only [Act.put, List.getElem_toArray, List.getElem_cons_succ, List.getElem_cons_zero, List.setIfInBounds_toArray, List.set_cons_succ, List.set_cons_zero]
                  clear qd5a qd5b
                  have hgood : good8 ⟨t.id, d1, d2, d3, av, d4, d5⟩ := ⟨gd1.out, gd2.out, gd3.out, hav0, gd4.out, gd5.out, hid⟩
                  refine wpAnyH_take (i := 30) (v := .agg #[.int .i64 t.id, .int .i64 d1, .int .i64 d2, .int .i64 d3, .int .i64 av, .int .i64 d4, .int .i64 d5]) rfl (by kernel_rfl) (by kernel_rfl) (by kernel_rfl) (fun _ _ _ h => h) (Or.inl ⟨by kernel_rfl, fun w hSw => by first | (go_simp; done) | (dsimp only at hSw; obtain ⟨s0, s1, s2, s3, s4⟩ := hSw; go_simp; done) | rfl⟩) (by assumption) ?_
                  simp only [Act.put, List.getElem_toArray, List.getElem_cons_succ, List.getElem_cons_zero, List.setIfInBounds_toArray, List.set_cons_succ, List.set_cons_zero]
                  have XX : Hid (Bw _ _ _) := X8
                  obtain ⟨⟨z0, z1, z2, z3, z4, z5, z6⟩, hXz, fz⟩ := X8
                  simp only [zH] at z0 z1 z2 z3 z4 z5 z6
                  have fz0 := fz 0
                  have fz1 := fz 1
                  have fz2 := fz 2
                  have fz3 := fz 3
                  have fz4 := fz 4
                  have fz5 := fz 5
                  have fz6 := fz 6
                  refine wpAnyH_ready (rs := [32]) (by kernel_rfl) (by simp) ?_
                  refine AllReadyH.cons rfl (fun K hK => ?_) (AllReadyH.nil)
                  go_simp
                  have K9 : Kb c wr (((((((w8.setCell ⟨X, 0, none⟩ (.int .i64 t.id)).setCell ⟨X, 1, none⟩ (.int .i64 d1)).setCell ⟨X, 2, none⟩ (.int .i64 d2)).setCell ⟨X, 3, none⟩ (.int .i64 d3)).setCell ⟨X, 4, none⟩ (.int .i64 av)).setCell ⟨X, 5, none⟩ (.int .i64 d4)).setCell ⟨X, 6, none⟩ (.int .i64 d5)) := kb_set7 (p := ⟨t.id, d1, d2, d3, av, d4, d5⟩) K8 hXw
                  have BS : Bw (((((((w8.setCell ⟨X, 0, none⟩ (.int .i64 t.id)).setCell ⟨X, 1, none⟩ (.int .i64 d1)).setCell ⟨X, 2, none⟩ (.int .i64 d2)).setCell ⟨X, 3, none⟩ (.int .i64 d3)).setCell ⟨X, 4, none⟩ (.int .i64 av)).setCell ⟨X, 5, none⟩ (.int .i64 d4)).setCell ⟨X, 6, none⟩ (.int .i64 d5)) X ⟨t.id, d1, d2, d3, av, d4, d5⟩ := Bw.set (p := ⟨t.id, d1, d2, d3, av, d4, d5⟩) XX.out
                  have IS : Is W0 a n cap c (((((((w8.setCell ⟨X, 0, none⟩ (.int .i64 t.id)).setCell ⟨X, 1, none⟩ (.int .i64 d1)).setCell ⟨X, 2, none⟩ (.int .i64 d2)).setCell ⟨X, 3, none⟩ (.int .i64 d3)).setCell ⟨X, 4, none⟩ (.int .i64 av)).setCell ⟨X, 5, none⟩ (.int .i64 d4)).setCell ⟨X, 6, none⟩ (.int .i64 d5)) := is_set7 (p := ⟨t.id, d1, d2, d3, av, d4, d5⟩) C8 hXc hXW
                  refine hK.out _ _ ?_ (fun hHeld2 => ?_)
                  · exact HT.out.kb (K9) hBz hBc
                  clear hK K hHeld
                  have hHeld := hHeld2
                  clear hHeld2
                  refine wpAnyH_done (by kernel_rfl) ?_ _
                  clear hHeld
                  go_wp2
                  go_meet
                  case rel =>
                    clear z0 z1 z2 z3 z4 z5 z6 fz fz0 fz1 fz2 fz3 fz4 fz5 fz6
                    refine ⟨X, ⟨t.id, d1, d2, d3, av, d4, d5⟩, rfl, ?_, hXw, hgood, ?_, ?_⟩
                    · show Bw _ _ _
                      with_reducible exact BS
                    · with_reducible exact IS
                    · with_reducible exact K9
              · go_simp
                have K9 : Kb c wr (w3.alloc (.cells #[.int .i64 0, .int .i64 0, .int .i64 0, .int .i64 0, .int .i64 0, .int .i64 0, .int .i64 0] 77)) := K3.alloc _
                have C9 := C3.alloc (.cells #[.int .i64 0, .int .i64 0, .int .i64 0, .int .i64 0, .int .i64 0, .int .i64 0, .int .i64 0] 77)
                have X9 := (show Bw (w3.alloc (.cells #[.int .i64 0, .int .i64 0, .int .i64 0, .int .i64 0, .int .i64 0, .int .i64 0, .int .i64 0] 77)) w3.heap.size zH from Bw.new w3 zH 77)
                have hXw : wr.heap.size ≤ w3.heap.size := K3.size
                have hXc : w3.heap.size ≠ c := by have := C3.lt; omega
                have hXW : W0.heap.size ≤ w3.heap.size := C3.below.size
                refine hK.out _ _ ?_ (fun hHeld2 => ?_)
                · exact HT.out.kb (K9) hBz hBc
                clear hK K hHeld
                have hHeld := hHeld2
                clear hHeld2
                obtain ⟨X, hXe⟩ : ∃ X, w3.heap.size = X := ⟨_, rfl⟩
                rw [hXe] at X9 hXw hXc hXW
                try rw [hXe]
                clear hXe
                generalize w3.alloc (.cells #[.int .i64 0, .int .i64 0, .int .i64 0, .int .i64 0, .int .i64 0, .int .i64 0, .int .i64 0] 77) = w9 at *
                refine wpAnyH_ready (rs := [25]) (by kernel_rfl) (by simp) ?_
                refine AllReadyH.cons rfl (fun K hK => ?_) (AllReadyH.nil)
                go_simp
                go_wp2_with (go_at_call 69; (with_reducible refine (below_any C9 (r1)).mono ?_); rintro e w10 ⟨⟨x10, rfl, hx10a, hx10b⟩, C10, M10⟩)
                have K10 := K9.trans (Kb.moved M10)
                have X10 : Bw w10 X zH := Bw.moved X9 M10 hXc
                refine hK.out _ _ ?_ (fun hHeld2 => ?_)
                · exact HT.out.kb (K10) hBz hBc
                clear hK K hHeld
                have hHeld := hHeld2
                clear hHeld2
                have hx10c := hx10b (by omega)
                obtain ⟨d4, hd4⟩ : ∃ d : Int, e1 + x10 = d := ⟨_, rfl⟩
                have qd4a : wrap64 (e1 + x10) = d4 := by rw [hd4]; unfold wrap64; omega
                have qd4b : IntKind.i64.wrap (e1 + x10) = d4 := by rw [hd4, IntKind.wrap_i64]; omega
                have gd4 : Hid (av < d4 ∧ d4 ≤ 4) := ⟨by omega, by omega⟩
                clear hd4 hx10a hx10b hx10c
                refine wpAnyH_take (i := 26) (v := .int .i64 d4) rfl (by kernel_rfl) (by kernel_rfl) (by kernel_rfl) (fun _ _ _ h => h) (Or.inl ⟨by kernel_rfl, fun w hSw => by first | (go_simp; done) | (dsimp only at hSw; obtain ⟨s0, s1, s2, s3, s4⟩ := hSw; go_simp; done) | rfl⟩) (by assumption) ?_
                simp only [Act.put, List.getElem_toArray, List.getElem_cons_succ, List.getElem_cons_zero, List.setIfInBounds_toArray, List.set_cons_succ, List.set_cons_zero]
                clear qd4a qd4b
                refine wpAnyH_ready (rs := [28]) (by kernel_rfl) (by simp) ?_
                refine AllReadyH.cons rfl (fun K hK => ?_) (AllReadyH.nil)
                go_simp
                go_wp2_with (go_at_call 69; (with_reducible refine (below_any C10 (4)).mono ?_); rintro e w11 ⟨⟨x11, rfl, hx11a, hx11b⟩, C11, M11⟩)
                have K11 := K10.trans (Kb.moved M11)
                have X11 : Bw w11 X zH := Bw.moved X10 M11 hXc
                refine hK.out _ _ ?_ (fun hHeld2 => ?_)
                · exact HT.out.kb (K11) hBz hBc
                clear hK K hHeld
                have hHeld := hHeld2
                clear hHeld2
                have hx11c := hx11b (by omega)
                obtain ⟨d5, hd5⟩ : ∃ d : Int, 1 + x11 = d := ⟨_, rfl⟩
                have qd5a : wrap64 (1 + x11) = d5 := by rw [hd5]; unfold wrap64; omega
                have qd5b : IntKind.i64.wrap (1 + x11) = d5 := by rw [hd5, IntKind.wrap_i64]; omega
                have gd5 : Hid (1 ≤ d5 ∧ d5 ≤ 4) := ⟨by omega, by omega⟩
                clear hd5 hx11a hx11b hx11c
                refine wpAnyH_take (i := 29) (v := .int .i64 d5) rfl (by kernel_rfl) (by kernel_rfl) (by kernel_rfl) (fun _ _ _ h => h) (Or.inl ⟨by kernel_rfl, fun w hSw => by first | (go_simp; done) | (dsimp only at hSw; obtain ⟨s0, s1, s2, s3, s4⟩ := hSw; go_simp; done) | rfl⟩) (by assumption) ?_
                simp only [Act.put, List.getElem_toArray, List.getElem_cons_succ, List.getElem_cons_zero, List.setIfInBounds_toArray, List.set_cons_succ, List.set_cons_zero]
                clear qd5a qd5b
                have hgood : good8 ⟨t.id, d1, d2, d3, av, d4, d5⟩ := ⟨gd1.out, gd2.out, gd3.out, hav0, gd4.out, gd5.out, hid⟩
                refine wpAnyH_take (i := 30) (v := .agg #[.int .i64 t.id, .int .i64 d1, .int .i64 d2, .int .i64 d3, .int .i64 av, .int .i64 d4, .int .i64 d5]) rfl (by kernel_rfl) (by kernel_rfl) (by kernel_rfl) (fun _ _ _ h => h) (Or.inl ⟨by kernel_rfl, fun w hSw => by first | (go_simp; done) | (dsimp only at hSw; obtain ⟨s0, s1, s2, s3, s4⟩ := hSw; go_simp; done) | rfl⟩) (by assumption) ?_
                simp only [Act.put, List.getElem_toArray, List.getElem_cons_succ, List.getElem_cons_zero, List.setIfInBounds_toArray, List.set_cons_succ, List.set_cons_zero]
                have XX : Hid (Bw _ _ _) := X11
                obtain ⟨⟨z0, z1, z2, z3, z4, z5, z6⟩, hXz, fz⟩ := X11
                simp only [zH] at z0 z1 z2 z3 z4 z5 z6
                have fz0 := fz 0
                have fz1 := fz 1
                have fz2 := fz 2
                have fz3 := fz 3
                have fz4 := fz 4
                have fz5 := fz 5
                have fz6 := fz 6
                refine wpAnyH_ready (rs := [32]) (by kernel_rfl) (by simp) ?_
                refine AllReadyH.cons rfl (fun K hK => ?_) (AllReadyH.nil)
                go_simp
                have K9 : Kb c wr (((((((w11.setCell ⟨X, 0, none⟩ (.int .i64 t.id)).setCell ⟨X, 1, none⟩ (.int .i64 d1)).setCell ⟨X, 2, none⟩ (.int .i64 d2)).setCell ⟨X, 3, none⟩ (.int .i64 d3)).setCell ⟨X, 4, none⟩ (.int .i64 av)).setCell ⟨X, 5, none⟩ (.int .i64 d4)).setCell ⟨X, 6, none⟩ (.int .i64 d5)) := kb_set7 (p := ⟨t.id, d1, d2, d3, av, d4, d5⟩) K11 hXw
                have BS : Bw (((((((w11.setCell ⟨X, 0, none⟩ (.int .i64 t.id)).setCell ⟨X, 1, none⟩ (.int .i64 d1)).setCell ⟨X, 2, none⟩ (.int .i64 d2)).setCell ⟨X, 3, none⟩ (.int .i64 d3)).setCell ⟨X, 4, none⟩ (.int .i64 av)).setCell ⟨X, 5, none⟩ (.int .i64 d4)).setCell ⟨X, 6, none⟩ (.int .i64 d5)) X ⟨t.id, d1, d2, d3, av, d4, d5⟩ := Bw.set (p := ⟨t.id, d1, d2, d3, av, d4, d5⟩) XX.out
                have IS : Is W0 a n cap c (((((((w11.setCell ⟨X, 0, none⟩ (.int .i64 t.id)).setCell ⟨X, 1, none⟩ (.int .i64 d1)).setCell ⟨X, 2, none⟩ (.int .i64 d2)).setCell ⟨X, 3, none⟩ (.int .i64 d3)).setCell ⟨X, 4, none⟩ (.int .i64 av)).setCell ⟨X, 5, none⟩ (.int .i64 d4)).setCell ⟨X, 6, none⟩ (.int .i64 d5)) := is_set7 (p := ⟨t.id, d1, d2, d3, av, d4, d5⟩) C11 hXc hXW
                refine hK.out _ _ ?_ (fun hHeld2 => ?_)
                · exact HT.out.kb (K9) hBz hBc
                clear hK K hHeld
                have hHeld := hHeld2
                clear hHeld2
                refine wpAnyH_done (by kernel_rfl) ?_ _
                clear hHeld
                go_wp2
                go_meet
                case rel =>
                  clear z0 z1 z2 z3 z4 z5 z6 fz fz0 fz1 fz2 fz3 fz4 fz5 fz6
                  refine ⟨X, ⟨t.id, d1, d2, d3, av, d4, d5⟩, rfl, ?_, hXw, hgood, ?_, ?_⟩
                  · show Bw _ _ _
                    with_reducible exact BS
                  · with_reducible exact IS
                  · with_reducible exact K9
            · go_simp
              have K12 : Kb c wr (w2.alloc (.cells #[.int .i64 0, .int .i64 0, .int .i64 0, .int .i64 0, .int .i64 0, .int .i64 0, .int .i64 0] 77)) := K2.alloc _
              have C12 := C2.alloc (.cells #[.int .i64 0, .int .i64 0, .int .i64 0, .int .i64 0, .int .i64 0, .int .i64 0, .int .i64 0] 77)
              have X12 := (show Bw (w2.alloc (.cells #[.int .i64 0, .int .i64 0, .int .i64 0, .int .i64 0, .int .i64 0, .int .i64 0, .int .i64 0] 77)) w2.heap.size zH from Bw.new w2 zH 77)
              have hXw : wr.heap.size ≤ w2.heap.size := K2.size
              have hXc : w2.heap.size ≠ c := by have := C2.lt; omega
              have hXW : W0.heap.size ≤ w2.heap.size := C2.below.size
              refine hK.out _ _ ?_ (fun hHeld2 => ?_)
              · exact HT.out.kb (K12) hBz hBc
              clear hK K hHeld
              have hHeld := hHeld2
              clear hHeld2
              obtain ⟨X, hXe⟩ : ∃ X, w2.heap.size = X := ⟨_, rfl⟩
              rw [hXe] at X12 hXw hXc hXW
              try rw [hXe]
              clear hXe
              generalize w2.alloc (.cells #[.int .i64 0, .int .i64 0, .int .i64 0, .int .i64 0, .int .i64 0, .int .i64 0, .int .i64 0] 77) = w12 at *
              refine wpAnyH_ready (rs := [13]) (by kernel_rfl) (by simp) ?_
              refine AllReadyH.cons rfl (fun K hK => ?_) (AllReadyH.nil)
              go_simp
              go_wp2_with (go_at_call 69; (with_reducible refine (below_any C12 (t.se)).mono ?_); rintro e w13 ⟨⟨x13, rfl, hx13a, hx13b⟩, C13, M13⟩)
              have K13 := K12.trans (Kb.moved M13)
              have X13 : Bw w13 X zH := Bw.moved X12 M13 hXc
              refine hK.out _ _ ?_ (fun hHeld2 => ?_)
              · exact HT.out.kb (K13) hBz hBc
              clear hK K hHeld
              have hHeld := hHeld2
              clear hHeld2
              have hx13c := hx13b (by omega)
              obtain ⟨d3, hd3⟩ : ∃ d : Int, 1 + x13 = d := ⟨_, rfl⟩
              have qd3a : wrap64 (1 + x13) = d3 := by rw [hd3]; unfold wrap64; omega
              have qd3b : IntKind.i64.wrap (1 + x13) = d3 := by rw [hd3, IntKind.wrap_i64]; omega
              have gd3 : Hid (1 ≤ d3 ∧ d3 ≤ 3) := ⟨by omega, by omega⟩
              clear hd3 hx13a hx13b hx13c
              refine wpAnyH_take (i := 14) (v := .int .i64 d3) rfl (by kernel_rfl) (by kernel_rfl) (by kernel_rfl) (fun _ _ _ h => h) (Or.inl ⟨by kernel_rfl, fun w hSw => by first | (go_simp; done) | (dsimp only at hSw; obtain ⟨s0, s1, s2, s3, s4⟩ := hSw; go_simp; done) | rfl⟩) (by assumption) ?_
              simp only [Act.put, List.getElem_toArray, List.getElem_cons_succ, List.getElem_cons_zero, List.setIfInBounds_toArray, List.set_cons_succ, List.set_cons_zero]
              clear qd3a qd3b
              refine wpAnyH_ready (rs := [25]) (by kernel_rfl) (by simp) ?_
              refine AllReadyH.cons rfl (fun K hK => ?_) (AllReadyH.nil)
              go_simp
              go_wp2_with (go_at_call 69; (with_reducible refine (below_any C13 (r1)).mono ?_); rintro e w14 ⟨⟨x14, rfl, hx14a, hx14b⟩, C14, M14⟩)
              have K14 := K13.trans (Kb.moved M14)
              have X14 : Bw w14 X zH := Bw.moved X13 M14 hXc
              refine hK.out _ _ ?_ (fun hHeld2 => ?_)
              · exact HT.out.kb (K14) hBz hBc
              clear hK K hHeld
              have hHeld := hHeld2
              clear hHeld2
              have hx14c := hx14b (by omega)
              obtain ⟨d4, hd4⟩ : ∃ d : Int, e1 + x14 = d := ⟨_, rfl⟩
              have qd4a : wrap64 (e1 + x14) = d4 := by rw [hd4]; unfold wrap64; omega
              have qd4b : IntKind.i64.wrap (e1 + x14) = d4 := by rw [hd4, IntKind.wrap_i64]; omega
              have gd4 : Hid (av < d4 ∧ d4 ≤ 4) := ⟨by omega, by omega⟩
              clear hd4 hx14a hx14b hx14c
              refine wpAnyH_take (i := 26) (v := .int .i64 d4) rfl (by kernel_rfl) (by kernel_rfl) (by kernel_rfl) (fun _ _ _ h => h) (Or.inl ⟨by kernel_rfl, fun w hSw => by first | (go_simp; done) | (dsimp only at hSw; obtain ⟨s0, s1, s2, s3, s4⟩ := hSw; go_simp; done) | rfl⟩) (by assumption) ?_
              simp only [Act.put, List.getElem_toArray, List.getElem_cons_succ, List.getElem_cons_zero, List.setIfInBounds_toArray, List.set_cons_succ, List.set_cons_zero]
              clear qd4a qd4b
              refine wpAnyH_ready (rs := [28]) (by kernel_rfl) (by simp) ?_
              refine AllReadyH.cons rfl (fun K hK => ?_) (AllReadyH.nil)
              go_simp
              go_wp2_with (go_at_call 69; (with_reducible refine (below_any C14 (4)).mono ?_); rintro e w15 ⟨⟨x15, rfl, hx15a, hx15b⟩, C15, M15⟩)
              have K15 := K14.trans (Kb.moved M15)
              have X15 : Bw w15 X zH := Bw.moved X14 M15 hXc
              refine hK.out _ _ ?_ (fun hHeld2 => ?_)
              · exact HT.out.kb (K15) hBz hBc
              clear hK K hHeld
              have hHeld := hHeld2
              clear hHeld2
              have hx15c := hx15b (by omega)
              obtain ⟨d5, hd5⟩ : ∃ d : Int, 1 + x15 = d := ⟨_, rfl⟩
              have qd5a : wrap64 (1 + x15) = d5 := by rw [hd5]; unfold wrap64; omega
              have qd5b : IntKind.i64.wrap (1 + x15) = d5 := by rw [hd5, IntKind.wrap_i64]; omega
              have gd5 : Hid (1 ≤ d5 ∧ d5 ≤ 4) := ⟨by omega, by omega⟩
              clear hd5 hx15a hx15b hx15c
              refine wpAnyH_take (i := 29) (v := .int .i64 d5) rfl (by kernel_rfl) (by kernel_rfl) (by kernel_rfl) (fun _ _ _ h => h) (Or.inl ⟨by kernel_rfl, fun w hSw => by first | (go_simp; done) | (dsimp only at hSw; obtain ⟨s0, s1, s2, s3, s4⟩ := hSw; go_simp; done) | rfl⟩) (by assumption) ?_
              simp only [Act.put, List.getElem_toArray, List.getElem_cons_succ, List.getElem_cons_zero, List.setIfInBounds_toArray, List.set_cons_succ, List.set_cons_zero]
              clear qd5a qd5b
              have hgood : good8 ⟨t.id, d1, d2, d3, av, d4, d5⟩ := ⟨gd1.out, gd2.out, gd3.out, hav0, gd4.out, gd5.out, hid⟩
              refine wpAnyH_take (i := 30) (v := .agg #[.int .i64 t.id, .int .i64 d1, .int .i64 d2, .int .i64 d3, .int .i64 av, .int .i64 d4, .int .i64 d5]) rfl (by kernel_rfl) (by kernel_rfl) (by kernel_rfl) (fun _ _ _ h => h) (Or.inl ⟨by kernel_rfl, fun w hSw => by first | (go_simp; done) | (dsimp only at hSw; obtain ⟨s0, s1, s2, s3, s4⟩ := hSw; go_simp; done) | rfl⟩) (by assumption) ?_
              simp only [Act.put, List.getElem_toArray, List.getElem_cons_succ, List.getElem_cons_zero, List.setIfInBounds_toArray, List.set_cons_succ, List.set_cons_zero]
              have XX : Hid (Bw _ _ _) := X15
              obtain ⟨⟨z0, z1, z2, z3, z4, z5, z6⟩, hXz, fz⟩ := X15
              simp only [zH] at z0 z1 z2 z3 z4 z5 z6
              have fz0 := fz 0
              have fz1 := fz 1
              have fz2 := fz 2
              have fz3 := fz 3
              have fz4 := fz 4
              have fz5 := fz 5
              have fz6 := fz 6
              refine wpAnyH_ready (rs := [32]) (by kernel_rfl) (by simp) ?_
              refine AllReadyH.cons rfl (fun K hK => ?_) (AllReadyH.nil)
              go_simp
              have K9 : Kb c wr (((((((w15.setCell ⟨X, 0, none⟩ (.int .i64 t.id)).setCell ⟨X, 1, none⟩ (.int .i64 d1)).setCell ⟨X, 2, none⟩ (.int .i64 d2)).setCell ⟨X, 3, none⟩ (.int .i64 d3)).setCell ⟨X, 4, none⟩ (.int .i64 av)).setCell ⟨X, 5, none⟩ (.int .i64 d4)).setCell ⟨X, 6, none⟩ (.int .i64 d5)) := kb_set7 (p := ⟨t.id, d1, d2, d3, av, d4, d5⟩) K15 hXw
              have BS : Bw (((((((w15.setCell ⟨X, 0, none⟩ (.int .i64 t.id)).setCell ⟨X, 1, none⟩ (.int .i64 d1)).setCell ⟨X, 2, none⟩ (.int .i64 d2)).setCell ⟨X, 3, none⟩ (.int .i64 d3)).setCell ⟨X, 4, none⟩ (.int .i64 av)).setCell ⟨X, 5, none⟩ (.int .i64 d4)).setCell ⟨X, 6, none⟩ (.int .i64 d5)) X ⟨t.id, d1, d2, d3, av, d4, d5⟩ := Bw.set (p := ⟨t.id, d1, d2, d3, av, d4, d5⟩) XX.out
              have IS : Is W0 a n cap c (((((((w15.setCell ⟨X, 0, none⟩ (.int .i64 t.id)).setCell ⟨X, 1, none⟩ (.int .i64 d1)).setCell ⟨X, 2, none⟩ (.int .i64 d2)).setCell ⟨X, 3, none⟩ (.int .i64 d3)).setCell ⟨X, 4, none⟩ (.int .i64 av)).setCell ⟨X, 5, none⟩ (.int .i64 d4)).setCell ⟨X, 6, none⟩ (.int .i64 d5)) := is_set7 (p := ⟨t.id, d1, d2, d3, av, d4, d5⟩) C15 hXc hXW
              refine hK.out _ _ ?_ (fun hHeld2 => ?_)
              · exact HT.out.kb (K9) hBz hBc
              clear hK K hHeld
              have hHeld := hHeld2
              clear hHeld2
              refine wpAnyH_done (by kernel_rfl) ?_ _
              clear hHeld
              go_wp2
              go_meet
              case rel =>
                clear z0 z1 z2 z3 z4 z5 z6 fz fz0 fz1 fz2 fz3 fz4 fz5 fz6
                refine ⟨X, ⟨t.id, d1, d2, d3, av, d4, d5⟩, rfl, ?_, hXw, hgood, ?_, ?_⟩
                · show Bw _ _ _
                  with_reducible exact BS
                · with_reducible exact IS
                · with_reducible exact K9
          · go_simp
            have K16 : Kb c wr (w1.alloc (.cells #[.int .i64 0, .int .i64 0, .int .i64 0, .int .i64 0, .int .i64 0, .int .i64 0, .int .i64 0] 77)) := K1.alloc _
            have C16 := C1.alloc (.cells #[.int .i64 0, .int .i64 0, .int .i64 0, .int .i64 0, .int .i64 0, .int .i64 0, .int .i64 0] 77)
            have X16 := (show Bw (w1.alloc (.cells #[.int .i64 0, .int .i64 0, .int .i64 0, .int .i64 0, .int .i64 0, .int .i64 0, .int .i64 0] 77)) w1.heap.size zH from Bw.new w1 zH 77)
            have hXw : wr.heap.size ≤ w1.heap.size := K1.size
            have hXc : w1.heap.size ≠ c := by have := C1.lt; omega
            have hXW : W0.heap.size ≤ w1.heap.size := C1.below.size
            refine hK.out _ _ ?_ (fun hHeld2 => ?_)
            · exact HT.out.kb (K16) hBz hBc
            clear hK K hHeld
            have hHeld := hHeld2
            clear hHeld2
            obtain ⟨X, hXe⟩ : ∃ X, w1.heap.size = X := ⟨_, rfl⟩
            rw [hXe] at X16 hXw hXc hXW
            try rw [hXe]
            clear hXe
            generalize w1.alloc (.cells #[.int .i64 0, .int .i64 0, .int .i64 0, .int .i64 0, .int .i64 0, .int .i64 0, .int .i64 0] 77) = w16 at *
            refine wpAnyH_ready (rs := [8]) (by kernel_rfl) (by simp) ?_
            refine AllReadyH.cons rfl (fun K hK => ?_) (AllReadyH.nil)
            go_simp
            go_wp2_with (go_at_call 69; (with_reducible refine (below_any C16 (t.co)).mono ?_); rintro e w17 ⟨⟨x17, rfl, hx17a, hx17b⟩, C17, M17⟩)
            have K17 := K16.trans (Kb.moved M17)
            have X17 : Bw w17 X zH := Bw.moved X16 M17 hXc
            refine hK.out _ _ ?_ (fun hHeld2 => ?_)
            · exact HT.out.kb (K17) hBz hBc
            clear hK K hHeld
            have hHeld := hHeld2
            clear hHeld2
            have hx17c := hx17b (by omega)
            obtain ⟨d2, hd2⟩ : ∃ d : Int, 1 + x17 = d := ⟨_, rfl⟩
            have qd2a : wrap64 (1 + x17) = d2 := by rw [hd2]; unfold wrap64; omega
            have qd2b : IntKind.i64.wrap (1 + x17) = d2 := by rw [hd2, IntKind.wrap_i64]; omega
            have gd2 : Hid (1 ≤ d2 ∧ d2 ≤ 2) := ⟨by omega, by omega⟩
            clear hd2 hx17a hx17b hx17c
            refine wpAnyH_take (i := 9) (v := .int .i64 d2) rfl (by kernel_rfl) (by kernel_rfl) (by kernel_rfl) (fun _ _ _ h => h) (Or.inl ⟨by kernel_rfl, fun w hSw => by first | (go_simp; done) | (dsimp only at hSw; obtain ⟨s0, s1, s2, s3, s4⟩ := hSw; go_simp; done) | rfl⟩) (by assumption) ?_
            simp only [Act.put, List.getElem_toArray, List.getElem_cons_succ, List.getElem_cons_zero, List.setIfInBounds_toArray, List.set_cons_succ, List.set_cons_zero]
            clear qd2a qd2b
            refine wpAnyH_ready (rs := [13]) (by kernel_rfl) (by simp) ?_
            refine AllReadyH.cons rfl (fun K hK => ?_) (AllReadyH.nil)
            go_simp
            go_wp2_with (go_at_call 69; (with_reducible refine (below_any C17 (t.se)).mono ?_); rintro e w18 ⟨⟨x18, rfl, hx18a, hx18b⟩, C18, M18⟩)
            have K18 := K17.trans (Kb.moved M18)
            have X18 : Bw w18 X zH := Bw.moved X17 M18 hXc
            refine hK.out _ _ ?_ (fun hHeld2 => ?_)
            · exact HT.out.kb (K18) hBz hBc
            clear hK K hHeld
            have hHeld := hHeld2
            clear hHeld2
            have hx18c := hx18b (by omega)
            obtain ⟨d3, hd3⟩ : ∃ d : Int, 1 + x18 = d := ⟨_, rfl⟩
            have qd3a : wrap64 (1 + x18) = d3 := by rw [hd3]; unfold wrap64; omega
            have qd3b : IntKind.i64.wrap (1 + x18) = d3 := by rw [hd3, IntKind.wrap_i64]; omega
            have gd3 : Hid (1 ≤ d3 ∧ d3 ≤ 3) := ⟨by omega, by omega⟩
            clear hd3 hx18a hx18b hx18c
            refine wpAnyH_take (i := 14) (v := .int .i64 d3) rfl (by kernel_rfl) (by kernel_rfl) (by kernel_rfl) (fun _ _ _ h => h) (Or.inl ⟨by kernel_rfl, fun w hSw => by first | (go_simp; done) | (dsimp only at hSw; obtain ⟨s0, s1, s2, s3, s4⟩ := hSw; go_simp; done) | rfl⟩) (by assumption) ?_
            simp only [Act.put, List.getElem_toArray, List.getElem_cons_succ, List.getElem_cons_zero, List.setIfInBounds_toArray, List.set_cons_succ, List.set_cons_zero]
            clear qd3a qd3b
            refine wpAnyH_ready (rs := [25]) (by kernel_rfl) (by simp) ?_
            refine AllReadyH.cons rfl (fun K hK => ?_) (AllReadyH.nil)
            go_simp
            go_wp2_with (go_at_call 69; (with_reducible refine (below_any C18 (r1)).mono ?_); rintro e w19 ⟨⟨x19, rfl, hx19a, hx19b⟩, C19, M19⟩)
            have K19 := K18.trans (Kb.moved M19)
            have X19 : Bw w19 X zH := Bw.moved X18 M19 hXc
            refine hK.out _ _ ?_ (fun hHeld2 => ?_)
            · exact HT.out.kb (K19) hBz hBc
            clear hK K hHeld
            have hHeld := hHeld2
            clear hHeld2
            have hx19c := hx19b (by omega)
            obtain ⟨d4, hd4⟩ : ∃ d : Int, e1 + x19 = d := ⟨_, rfl⟩
            have qd4a : wrap64 (e1 + x19) = d4 := by rw [hd4]; unfold wrap64; omega
            have qd4b : IntKind.i64.wrap (e1 + x19) = d4 := by rw [hd4, IntKind.wrap_i64]; omega
            have gd4 : Hid (av < d4 ∧ d4 ≤ 4) := ⟨by omega, by omega⟩
            clear hd4 hx19a hx19b hx19c
            refine wpAnyH_take (i := 26) (v := .int .i64 d4) rfl (by kernel_rfl) (by kernel_rfl) (by kernel_rfl) (fun _ _ _ h => h) (Or.inl ⟨by kernel_rfl, fun w hSw => by first | (go_simp; done) | (dsimp only at hSw; obtain ⟨s0, s1, s2, s3, s4⟩ := hSw; go_simp; done) | rfl⟩) (by assumption) ?_
            simp only [Act.put, List.getElem_toArray, List.getElem_cons_succ, List.getElem_cons_zero, List.setIfInBounds_toArray, List.set_cons_succ, List.set_cons_zero]
            clear qd4a qd4b
            refine wpAnyH_ready (rs := [28]) (by kernel_rfl) (by simp) ?_
            refine AllReadyH.cons rfl (fun K hK => ?_) (AllReadyH.nil)
            go_simp
            go_wp2_with (go_at_call 69; (with_reducible refine (below_any C19 (4)).mono ?_); rintro e w20 ⟨⟨x20, rfl, hx20a, hx20b⟩, C20, M20⟩)
            have K20 := K19.trans (Kb.moved M20)
            have X20 : Bw w20 X zH := Bw.moved X19 M20 hXc
            refine hK.out _ _ ?_ (fun hHeld2 => ?_)
            · exact HT.out.kb (K20) hBz hBc
            clear hK K hHeld
            have hHeld := hHeld2
            clear hHeld2
            have hx20c := hx20b (by omega)
            obtain ⟨d5, hd5⟩ : ∃ d : Int, 1 + x20 = d := ⟨_, rfl⟩
            have qd5a : wrap64 (1 + x20) = d5 := by rw [hd5]; unfold wrap64; omega
            have qd5b : IntKind.i64.wrap (1 + x20) = d5 := by rw [hd5, IntKind.wrap_i64]; omega
            have gd5 : Hid (1 ≤ d5 ∧ d5 ≤ 4) := ⟨by omega, by omega⟩
            clear hd5 hx20a hx20b hx20c
            refine wpAnyH_take (i := 29) (v := .int .i64 d5) rfl (by kernel_rfl) (by kernel_rfl) (by kernel_rfl) (fun _ _ _ h => h) (Or.inl ⟨by kernel_rfl, fun w hSw => by first | (go_simp; done) | (dsimp only at hSw; obtain ⟨s0, s1, s2, s3, s4⟩ := hSw; go_simp; done) | rfl⟩) (by assumption) ?_
            simp only [Act.put, List.getElem_toArray, List.getElem_cons_succ, List.getElem_cons_zero, List.setIfInBounds_toArray, List.set_cons_succ, List.set_cons_zero]
            clear qd5a qd5b
            have hgood : good8 ⟨t.id, d1, d2, d3, av, d4, d5⟩ := ⟨gd1.out, gd2.out, gd3.out, hav0, gd4.out, gd5.out, hid⟩
            refine wpAnyH_take (i := 30) (v := .agg #[.int .i64 t.id, .int .i64 d1, .int .i64 d2, .int .i64 d3, .int .i64 av, .int .i64 d4, .int .i64 d5]) rfl (by kernel_rfl) (by kernel_rfl) (by kernel_rfl) (fun _ _ _ h => h) (Or.inl ⟨by kernel_rfl, fun w hSw => by first | (go_simp; done) | (dsimp only at hSw; obtain ⟨s0, s1, s2, s3, s4⟩ := hSw; go_simp; done) | rfl⟩) (by assumption) ?_
            simp only [Act.put, List.getElem_toArray, List.getElem_cons_succ, List.getElem_cons_zero, List.setIfInBounds_toArray, List.set_cons_succ, List.set_cons_zero]
            have XX : Hid (Bw _ _ _) := X20
            obtain ⟨⟨z0, z1, z2, z3, z4, z5, z6⟩, hXz, fz⟩ := X20
            simp only [zH] at z0 z1 z2 z3 z4 z5 z6
            have fz0 := fz 0
            have fz1 := fz 1
            have fz2 := fz 2
            have fz3 := fz 3
            have fz4 := fz 4
            have fz5 := fz 5
            have fz6 := fz 6
            refine wpAnyH_ready (rs := [32]) (by kernel_rfl) (by simp) ?_
            refine AllReadyH.cons rfl (fun K hK => ?_) (AllReadyH.nil)
            go_simp
            have K9 : Kb c wr (((((((w20.setCell ⟨X, 0, none⟩ (.int .i64 t.id)).setCell ⟨X, 1, none⟩ (.int .i64 d1)).setCell ⟨X, 2, none⟩ (.int .i64 d2)).setCell ⟨X, 3, none⟩ (.int .i64 d3)).setCell ⟨X, 4, none⟩ (.int .i64 av)).setCell ⟨X, 5, none⟩ (.int .i64 d4)).setCell ⟨X, 6, none⟩ (.int .i64 d5)) := kb_set7 (p := ⟨t.id, d1, d2, d3, av, d4, d5⟩) K20 hXw
            have BS : Bw (((((((w20.setCell ⟨X, 0, none⟩ (.int .i64 t.id)).setCell ⟨X, 1, none⟩ (.int .i64 d1)).setCell ⟨X, 2, none⟩ (.int .i64 d2)).setCell ⟨X, 3, none⟩ (.int .i64 d3)).setCell ⟨X, 4, none⟩ (.int .i64 av)).setCell ⟨X, 5, none⟩ (.int .i64 d4)).setCell ⟨X, 6, none⟩ (.int .i64 d5)) X ⟨t.id, d1, d2, d3, av, d4, d5⟩ := Bw.set (p := ⟨t.id, d1, d2, d3, av, d4, d5⟩) XX.out
            have IS : Is W0 a n cap c (((((((w20.setCell ⟨X, 0, none⟩ (.int .i64 t.id)).setCell ⟨X, 1, none⟩ (.int .i64 d1)).setCell ⟨X, 2, none⟩ (.int .i64 d2)).setCell ⟨X, 3, none⟩ (.int .i64 d3)).setCell ⟨X, 4, none⟩ (.int .i64 av)).setCell ⟨X, 5, none⟩ (.int .i64 d4)).setCell ⟨X, 6, none⟩ (.int .i64 d5)) := is_set7 (p := ⟨t.id, d1, d2, d3, av, d4, d5⟩) C20 hXc hXW
            refine hK.out _ _ ?_ (fun hHeld2 => ?_)
            · exact HT.out.kb (K9) hBz hBc
            clear hK K hHeld
            have hHeld := hHeld2
            clear hHeld2
            refine wpAnyH_done (by kernel_rfl) ?_ _
            clear hHeld
            go_wp2
            go_meet
            case rel =>
              clear z0 z1 z2 z3 z4 z5 z6 fz fz0 fz1 fz2 fz3 fz4 fz5 fz6
              refine ⟨X, ⟨t.id, d1, d2, d3, av, d4, d5⟩, rfl, ?_, hXw, hgood, ?_, ?_⟩
              · show Bw _ _ _
                with_reducible exact BS
              · with_reducible exact IS
              · with_reducible exact K9
        · go_simp
          have K21 : Kb c wr (w7.alloc (.cells #[.int .i64 0, .int .i64 0, .int .i64 0, .int .i64 0, .int .i64 0, .int .i64 0, .int .i64 0] 77)) := K0.alloc _
          have C21 := C0.alloc (.cells #[.int .i64 0, .int .i64 0, .int .i64 0, .int .i64 0, .int .i64 0, .int .i64 0, .int .i64 0] 77)
          have X21 := (show Bw (w7.alloc (.cells #[.int .i64 0, .int .i64 0, .int .i64 0, .int .i64 0, .int .i64 0, .int .i64 0, .int .i64 0] 77)) w7.heap.size zH from Bw.new w7 zH 77)
          have hXw : wr.heap.size ≤ w7.heap.size := K0.size
          have hXc : w7.heap.size ≠ c := by have := C0.lt; omega
          have hXW : W0.heap.size ≤ w7.heap.size := C0.below.size
          refine hK.out _ _ ?_ (fun hHeld2 => ?_)
          · exact HT.out.kb (K21) hBz hBc
          clear hK K hHeld
          have hHeld := hHeld2
          clear hHeld2
          obtain ⟨X, hXe⟩ : ∃ X, w7.heap.size = X := ⟨_, rfl⟩
          rw [hXe] at X21 hXw hXc hXW
          try rw [hXe]
          clear hXe
          generalize w7.alloc (.cells #[.int .i64 0, .int .i64 0, .int .i64 0, .int .i64 0, .int .i64 0, .int .i64 0, .int .i64 0] 77) = w21 at *
          refine wpAnyH_ready (rs := [3]) (by kernel_rfl) (by simp) ?_
          refine AllReadyH.cons rfl (fun K hK => ?_) (AllReadyH.nil)
          go_simp
          go_wp2_with (go_at_call 69; (with_reducible refine (below_any C21 (2)).mono ?_); rintro e w22 ⟨⟨x22, rfl, hx22a, hx22b⟩, C22, M22⟩)
          have K22 := K21.trans (Kb.moved M22)
          have X22 : Bw w22 X zH := Bw.moved X21 M22 hXc
          refine hK.out _ _ ?_ (fun hHeld2 => ?_)
          · exact HT.out.kb (K22) hBz hBc
          clear hK K hHeld
          have hHeld := hHeld2
          clear hHeld2
          have hx22c := hx22b (by omega)
          obtain ⟨d1, hd1⟩ : ∃ d : Int, 5 + x22 = d := ⟨_, rfl⟩
          have qd1a : wrap64 (5 + x22) = d1 := by rw [hd1]; unfold wrap64; omega
          have qd1b : IntKind.i64.wrap (5 + x22) = d1 := by rw [hd1, IntKind.wrap_i64]; omega
          have gd1 : Hid (5 ≤ d1 ∧ d1 ≤ 6) := ⟨by omega, by omega⟩
          clear hd1 hx22a hx22b hx22c
          refine wpAnyH_take (i := 4) (v := .int .i64 d1) rfl (by kernel_rfl) (by kernel_rfl) (by kernel_rfl) (fun _ _ _ h => h) (Or.inl ⟨by kernel_rfl, fun w hSw => by first | (go_simp; done) | (dsimp only at hSw; obtain ⟨s0, s1, s2, s3, s4⟩ := hSw; go_simp; done) | rfl⟩) (by assumption) ?_
          simp only [Act.put, List.getElem_toArray, List.getElem_cons_succ, List.getElem_cons_zero, List.setIfInBounds_toArray, List.set_cons_succ, List.set_cons_zero]
          clear qd1a qd1b
          refine wpAnyH_ready (rs := [8]) (by kernel_rfl) (by simp) ?_
          refine AllReadyH.cons rfl (fun K hK => ?_) (AllReadyH.nil)
          go_simp
          go_wp2_with (go_at_call 69; (with_reducible refine (below_any C22 (t.co)).mono ?_); rintro e w23 ⟨⟨x23, rfl, hx23a, hx23b⟩, C23, M23⟩)
          have K23 := K22.trans (Kb.moved M23)
          have X23 : Bw w23 X zH := Bw.moved X22 M23 hXc
          refine hK.out _ _ ?_ (fun hHeld2 => ?_)
          · exact HT.out.kb (K23) hBz hBc
          clear hK K hHeld
          have hHeld := hHeld2
          clear hHeld2
          have hx23c := hx23b (by omega)
          obtain ⟨d2, hd2⟩ : ∃ d : Int, 1 + x23 = d := ⟨_, rfl⟩
          have qd2a : wrap64 (1 + x23) = d2 := by rw [hd2]; unfold wrap64; omega
          have qd2b : IntKind.i64.wrap (1 + x23) = d2 := by rw [hd2, IntKind.wrap_i64]; omega
          have gd2 : Hid (1 ≤ d2 ∧ d2 ≤ 2) := ⟨by omega, by omega⟩
          clear hd2 hx23a hx23b hx23c
          refine wpAnyH_take (i := 9) (v := .int .i64 d2) rfl (by kernel_rfl) (by kernel_rfl) (by kernel_rfl) (fun _ _ _ h => h) (Or.inl ⟨by kernel_rfl, fun w hSw => by first | (go_simp; done) | (dsimp only at hSw; obtain ⟨s0, s1, s2, s3, s4⟩ := hSw; go_simp; done) | rfl⟩) (by assumption) ?_
          simp only [Act.put, List.getElem_toArray, List.getElem_cons_succ, List.getElem_cons_zero, List.setIfInBounds_toArray, List.set_cons_succ, List.set_cons_zero]
          clear qd2a qd2b
          refine wpAnyH_ready (rs := [13]) (by kernel_rfl) (by simp) ?_
          refine AllReadyH.cons rfl (fun K hK => ?_) (AllReadyH.nil)
          go_simp
          go_wp2_with (go_at_call 69; (with_reducible refine (below_any C23 (t.se)).mono ?_); rintro e w24 ⟨⟨x24, rfl, hx24a, hx24b⟩, C24, M24⟩)
          have K24 := K23.trans (Kb.moved M24)
          have X24 : Bw w24 X zH := Bw.moved X23 M24 hXc
          refine hK.out _ _ ?_ (fun hHeld2 => ?_)
          · exact HT.out.kb (K24) hBz hBc
          clear hK K hHeld
          have hHeld := hHeld2
          clear hHeld2
          have hx24c := hx24b (by omega)
          obtain ⟨d3, hd3⟩ : ∃ d : Int, 1 + x24 = d := ⟨_, rfl⟩
          have qd3a : wrap64 (1 + x24) = d3 := by rw [hd3]; unfold wrap64; omega
          have qd3b : IntKind.i64.wrap (1 + x24) = d3 := by rw [hd3, IntKind.wrap_i64]; omega
          have gd3 : Hid (1 ≤ d3 ∧ d3 ≤ 3) := ⟨by omega, by omega⟩
          clear hd3 hx24a hx24b hx24c
          refine wpAnyH_take (i := 14) (v := .int .i64 d3) rfl (by kernel_rfl) (by kernel_rfl) (by kernel_rfl) (fun _ _ _ h => h) (Or.inl ⟨by kernel_rfl, fun w hSw => by first | (go_simp; done) | (dsimp only at hSw; obtain ⟨s0, s1, s2, s3, s4⟩ := hSw; go_simp; done) | rfl⟩) (by assumption) ?_
          simp only [Act.put, List.getElem_toArray, List.getElem_cons_succ, List.getElem_cons_zero, List.setIfInBounds_toArray, List.set_cons_succ, List.set_cons_zero]
          clear qd3a qd3b
          refine wpAnyH_ready (rs := [25]) (by kernel_rfl) (by simp) ?_
          refine AllReadyH.cons rfl (fun K hK => ?_) (AllReadyH.nil)
          go_simp
          go_wp2_with (go_at_call 69; (with_reducible refine (below_any C24 (r1)).mono ?_); rintro e w25 ⟨⟨x25, rfl, hx25a, hx25b⟩, C25, M25⟩)
          have K25 := K24.trans (Kb.moved M25)
          have X25 : Bw w25 X zH := Bw.moved X24 M25 hXc
          refine hK.out _ _ ?_ (fun hHeld2 => ?_)
          · exact HT.out.kb (K25) hBz hBc
          clear hK K hHeld
          have hHeld := hHeld2
          clear hHeld2
          have hx25c := hx25b (by omega)
          obtain ⟨d4, hd4⟩ : ∃ d : Int, e1 + x25 = d := ⟨_, rfl⟩
          have qd4a : wrap64 (e1 + x25) = d4 := by rw [hd4]; unfold wrap64; omega
          have qd4b : IntKind.i64.wrap (e1 + x25) = d4 := by rw [hd4, IntKind.wrap_i64]; omega
          have gd4 : Hid (av < d4 ∧ d4 ≤ 4) := ⟨by omega, by omega⟩
          clear hd4 hx25a hx25b hx25c
          refine wpAnyH_take (i := 26) (v := .int .i64 d4) rfl (by kernel_rfl) (by kernel_rfl) (by kernel_rfl) (fun _ _ _ h => h) (Or.inl ⟨by kernel_rfl, fun w hSw => by first | (go_simp; done) | (dsimp only at hSw; obtain ⟨s0, s1, s2, s3, s4⟩ := hSw; go_simp; done) | rfl⟩) (by assumption) ?_
          simp only [Act.put, List.getElem_toArray, List.getElem_cons_succ, List.getElem_cons_zero, List.setIfInBounds_toArray, List.set_cons_succ, List.set_cons_zero]
          clear qd4a qd4b
          refine wpAnyH_ready (rs := [28]) (by kernel_rfl) (by simp) ?_
          refine AllReadyH.cons rfl (fun K hK => ?_) (AllReadyH.nil)
          go_simp
          go_wp2_with (go_at_call 69; (with_reducible refine (below_any C25 (4)).mono ?_); rintro e w26 ⟨⟨x26, rfl, hx26a, hx26b⟩, C26, M26⟩)
          have K26 := K25.trans (Kb.moved M26)
          have X26 : Bw w26 X zH := Bw.moved X25 M26 hXc
          refine hK.out _ _ ?_ (fun hHeld2 => ?_)
          · exact HT.out.kb (K26) hBz hBc
          clear hK K hHeld
          have hHeld := hHeld2
          clear hHeld2
          have hx26c := hx26b (by omega)
          obtain ⟨d5, hd5⟩ : ∃ d : Int, 1 + x26 = d := ⟨_, rfl⟩
          have qd5a : wrap64 (1 + x26) = d5 := by rw [hd5]; unfold wrap64; omega
          have qd5b : IntKind.i64.wrap (1 + x26) = d5 := by rw [hd5, IntKind.wrap_i64]; omega
          have gd5 : Hid (1 ≤ d5 ∧ d5 ≤ 4) := ⟨by omega, by omega⟩
          clear hd5 hx26a hx26b hx26c
          refine wpAnyH_take (i := 29) (v := .int .i64 d5) rfl (by kernel_rfl) (by kernel_rfl) (by kernel_rfl) (fun _ _ _ h => h) (Or.inl ⟨by kernel_rfl, fun w hSw => by first | (go_simp; done) | (dsimp only at hSw; obtain ⟨s0, s1, s2, s3, s4⟩ := hSw; go_simp; done) | rfl⟩) (by assumption) ?_
          simp only [Act.put, List.getElem_toArray, List.getElem_cons_succ, List.getElem_cons_zero, List.setIfInBounds_toArray, List.set_cons_succ, List.set_cons_zero]
          clear qd5a qd5b
          have hgood : good8 ⟨t.id, d1, d2, d3, av, d4, d5⟩ := ⟨gd1.out, gd2.out, gd3.out, hav0, gd4.out, gd5.out, hid⟩
          refine wpAnyH_take (i := 30) (v := .agg #[.int .i64 t.id, .int .i64 d1, .int .i64 d2, .int .i64 d3, .int .i64 av, .int .i64 d4, .int .i64 d5]) rfl (by kernel_rfl) (by kernel_rfl) (by kernel_rfl) (fun _ _ _ h => h) (Or.inl ⟨by kernel_rfl, fun w hSw => by first | (go_simp; done) | (dsimp only at hSw; obtain ⟨s0, s1, s2, s3, s4⟩ := hSw; go_simp; done) | rfl⟩) (by assumption) ?_
          simp only [Act.put, List.getElem_toArray, List.getElem_cons_succ, List.getElem_cons_zero, List.setIfInBounds_toArray, List.set_cons_succ, List.set_cons_zero]
          have XX : Hid (Bw _ _ _) := X26
          obtain ⟨⟨z0, z1, z2, z3, z4, z5, z6⟩, hXz, fz⟩ := X26
          simp only [zH] at z0 z1 z2 z3 z4 z5 z6
          have fz0 := fz 0
          have fz1 := fz 1
          have fz2 := fz 2
          have fz3 := fz 3
          have fz4 := fz 4
          have fz5 := fz 5
          have fz6 := fz 6
          refine wpAnyH_ready (rs := [32]) (by kernel_rfl) (by simp) ?_
          refine AllReadyH.cons rfl (fun K hK => ?_) (AllReadyH.nil)
          go_simp
          have K9 : Kb c wr (((((((w26.setCell ⟨X, 0, none⟩ (.int .i64 t.id)).setCell ⟨X, 1, none⟩ (.int .i64 d1)).setCell ⟨X, 2, none⟩ (.int .i64 d2)).setCell ⟨X, 3, none⟩ (.int .i64 d3)).setCell ⟨X, 4, none⟩ (.int .i64 av)).setCell ⟨X, 5, none⟩ (.int .i64 d4)).setCell ⟨X, 6, none⟩ (.int .i64 d5)) := kb_set7 (p := ⟨t.id, d1, d2, d3, av, d4, d5⟩) K26 hXw
          have BS : Bw (((((((w26.setCell ⟨X, 0, none⟩ (.int .i64 t.id)).setCell ⟨X, 1, none⟩ (.int .i64 d1)).setCell ⟨X, 2, none⟩ (.int .i64 d2)).setCell ⟨X, 3, none⟩ (.int .i64 d3)).setCell ⟨X, 4, none⟩ (.int .i64 av)).setCell ⟨X, 5, none⟩ (.int .i64 d4)).setCell ⟨X, 6, none⟩ (.int .i64 d5)) X ⟨t.id, d1, d2, d3, av, d4, d5⟩ := Bw.set (p := ⟨t.id, d1, d2, d3, av, d4, d5⟩) XX.out
          have IS : Is W0 a n cap c (((((((w26.setCell ⟨X, 0, none⟩ (.int .i64 t.id)).setCell ⟨X, 1, none⟩ (.int .i64 d1)).setCell ⟨X, 2, none⟩ (.int .i64 d2)).setCell ⟨X, 3, none⟩ (.int .i64 d3)).setCell ⟨X, 4, none⟩ (.int .i64 av)).setCell ⟨X, 5, none⟩ (.int .i64 d4)).setCell ⟨X, 6, none⟩ (.int .i64 d5)) := is_set7 (p := ⟨t.id, d1, d2, d3, av, d4, d5⟩) C26 hXc hXW
          refine hK.out _ _ ?_ (fun hHeld2 => ?_)
          · exact HT.out.kb (K9) hBz hBc
          clear hK K hHeld
          have hHeld := hHeld2
          clear hHeld2
          refine wpAnyH_done (by kernel_rfl) ?_ _
          clear hHeld
          go_wp2
          go_meet
          case rel =>
            clear z0 z1 z2 z3 z4 z5 z6 fz fz0 fz1 fz2 fz3 fz4 fz5 fz6
            refine ⟨X, ⟨t.id, d1, d2, d3, av, d4, d5⟩, rfl, ?_, hXw, hgood, ?_, ?_⟩
            · show Bw _ _ _
              with_reducible exact BS
            · with_reducible exact IS
            · with_reducible exact K9
      case rest =>
        obtain ⟨X, p, rfl, HX, hXw, HGD, C8, K8⟩ := hcut
        have KW8 := Kr.trans K8
        have hnc : (.slice (some ⟨g, 0, none⟩) l.length vc : Value).ownBlock ≠ some c := fun h => by have := (HO.out.lt c h).1; omega
        have O8 := own_kb HO.out K8 hnc
        obtain ⟨aa, cc, hv, I8⟩ := own_holds O8
        simp only [Value.slice.injEq] at hv
        obtain ⟨rfl, -, rfl⟩ := hv
        obtain ⟨y0, y1, y2, y3, y4, y5, y6⟩ := HX.out.1
        have HTK : Hid (∀ _ : Unit, _) := fun _ => specTake_val g 0 l vc p wc (by omega) I8
        have HNE : Hid (tkL l p ≠ []) := tk_ne HGD.out
        have HWK : Hid (W7s (tkL l p)) := tk_wf HW.out (good_wf HGD.out)
        have hle : (tkL l p).length ≤ k + 1 := Nat.le_trans (tk_le l p) (by omega)
        have hwz : w.heap.size + 1 ≤ wc.heap.size := by have := K8.size; omega
        generalize tkL l p = tk at *
        generalize holdsB (l ++ [p]) = R at *
        clear O8 I8 HO HW Cr HGD hnc
        go_wp2_with fail
        refine (HTK.out ()).mono ?_
        rintro e w9 ⟨⟨v, rfl, O9⟩, L9⟩
        obtain ⟨g9, vc9, rfl, -, hg9, -, -⟩ := own_cell O9 (List.length_pos_iff.2 HNE.out)
        have C9 := is_on C8 L9
        have K9 := KW8.trans (Kb.of c L9)
        have O10 : Hid (World.ownsRow _ _ _ _ _ _ _) := own_wider O9 hwz
        clear O9 L9 C8 K8 KW8 y0 y1 y2 y3 y4 y5 y6 HX HTK
        go_wp2
        go_roundw
        case rel => exact ⟨k + 1, tk, g9, vc9, by omega, by go_num, rfl, hle, C9, K9, O10, HWK⟩
        case measure => simp [intOf]; omega
    · by_cases h0 : l.length = 0
      · have d0 : decide (0 < (l.length : Int)) = false := decide_eq_false (by omega)
        have OF := own_wider HO.out (Nat.le_succ w.heap.size)
        have KF := KB.trans Kr
        go_wp2
        go_ret
        exact ⟨⟨l, g, vc, rfl, OF, HW.out, by omega⟩, Cr, KF⟩
      · have d0 : decide (0 < (l.length : Int)) = true := decide_eq_true (by omega)
        go_wp2_with fail
        refine (below_any Cr 20).mono ?_
        rintro e w6 ⟨⟨y, rfl, hy0, hy1⟩, C6, M6⟩
        have hy2 := hy1 (by omega)
        have K6 := KB.trans (Kr.trans (Kb.moved M6))
        have O6 := Cur.owns_moved HO.out M6 (by omega)
        have hz6 : w.heap.size + 1 ≤ w6.heap.size := by have := M6.size; omega
        have hnc : (.slice (some ⟨g, 0, none⟩) l.length vc : Value).ownBlock ≠ some c := fun h => by have := (HO.out.lt c h).1; omega
        clear HO Cr Kr M6 hy1 HT HTB
        obtain ⟨p, r, rfl⟩ : ∃ p r, l = p :: r := by
          cases l with
          | nil => simp at h0
          | cons p r => exact ⟨p, r, rfl⟩
        have hpw : W7 p := HW.out p (by simp)
        have hrw : W7s r := fun q hq => HW.out q (by simp [hq])
        obtain ⟨g1, cap1, hv1, -, hg1, hcl, hfz⟩ := own_cell O6 (by simp)
        simp only [Value.slice.injEq, Option.some.injEq, Addr.mk.injEq] at hv1
        obtain ⟨⟨rfl, -⟩, -, rfl⟩ := hv1
        have c0 : w6.cell? ⟨g, 0, none⟩ = some (.int .i64 p.tr) := hcl 0 _ rfl
        have c1 : w6.cell? ⟨g, 1, none⟩ = some (.int .i64 p.dy) := hcl 1 _ rfl
        have c2 : w6.cell? ⟨g, 2, none⟩ = some (.int .i64 p.co) := hcl 2 _ rfl
        have c3 : w6.cell? ⟨g, 3, none⟩ = some (.int .i64 p.se) := hcl 3 _ rfl
        have c4 : w6.cell? ⟨g, 4, none⟩ = some (.int .i64 p.ba) := hcl 4 _ rfl
        have c5 : w6.cell? ⟨g, 5, none⟩ = some (.int .i64 p.be) := hcl 5 _ rfl
        have c6 : w6.cell? ⟨g, 6, none⟩ = some (.int .i64 p.od) := hcl 6 _ rfl
        have f5 := hfz 5
        have f6 := hfz 6
        have hgc : g ≠ c := fun h => hnc (by rw [h]; rfl)
        have hgW : w.heap.size + 1 ≤ g := (O6.lt g rfl).1
        have HWL : Hid (W7s (p :: r)) := HW.out
        have HO6 : Hid (World.ownsRow _ _ _ _ _ _ _) := O6
        clear hcl hfz HW O6
        obtain ⟨m2, hm2⟩ : ∃ m2, (p :: r).length = m2 := ⟨_, rfl⟩
        have HM2 : Hid ((p :: r).length = m2) := hm2
        have hm2a : 1 ≤ m2 := by rw [← hm2]; simp
        have hm2b : m2 ≤ 10 := by omega
        rw [hm2] at HO6 d0 hnc ⊢
        clear hm2 h0 hlk
        by_cases e0 : y = 0
        · subst e0
          have N7 := new_below w6 (.cells #[.int .i64 p.tr, .int .i64 p.dy, .int .i64 p.co, .int .i64 p.se, .int .i64 p.ba, .int .i64 p.be, .int .i64 p.od] 77)
          have m7 := heap_new w6 (.cells #[.int .i64 p.tr, .int .i64 p.dy, .int .i64 p.co, .int .i64 p.se, .int .i64 p.ba, .int .i64 p.be, .int .i64 p.od] 77)
          have O7 := own_below HO6.out N7 (Nat.le_refl _)
          have C7 := C6.alloc (.cells #[.int .i64 p.tr, .int .i64 p.dy, .int .i64 p.co, .int .i64 p.se, .int .i64 p.ba, .int .i64 p.be, .int .i64 p.od] 77)
          have K7 := K6.alloc (.cells #[.int .i64 p.tr, .int .i64 p.dy, .int .i64 p.co, .int .i64 p.se, .int .i64 p.ba, .int .i64 p.be, .int .i64 p.od] 77)
          clear C6 K6 f5 f6
          go_wp2_with (at_builtin; refine wpList_append_own_at _ rfl _ _ 70 rfl (w.heap.size + 1) 77 i0 (lgV ⟨0, 0, 0, 0, 0, 0, 0⟩) 7 56 Try.underlying70 hi hz0 hz1 hz2 rfl (by decide) _ _ _ rfl O7 ⟨w6.heap.size, 0, none⟩ 1 1 (hc1 p) rfl rfl ?c1 ?c2 ?c3 ?c4 ?c5 ?_)
          case c1 => exact seven_at m7
          case c2 => intro u hu; simp [hc1] at hu; rcases hu with rfl | rfl | rfl | rfl | rfl | rfl | rfl <;> rfl
          case c3 => unfold maxLen; omega
          case c4 => omega
          case c5 => exact Nat.le_trans hz6 N7.size
          intro v' w8 O8 G8 _ _
          have C8 := C7.grown G8 hnc (fun j hj => by have := (O7.lt j hj).1; omega)
          have K8 := K7.grown G8 (fun j hj => by have := (O7.lt j hj).1; omega)
          have O9 : w8.ownsRow w.heap.size 77 7 v' ((p :: r) ++ [p]).length (hcells ((p :: r) ++ [p])) := by
            rw [List.length_append, HM2.out, ← hcells_snoc]
            exact own_wider O8 (Nat.le_succ _)
          obtain ⟨g9, vc9, rfl, -, -, -, -⟩ := own_cell O9 (by simp)
          have HO9 : Hid (World.ownsRow _ _ _ _ _ _ _) := O9
          have hlen : ((p :: r) ++ [p]).length ≤ 401 := by rw [List.length_append, HM2.out]; simp; omega
          have HWF := w7s_snoc HWL.out hpw
          clear O7 O8 O9 G8 C7 K7 N7 m7 c0 c1 c2 c3 c4 c5 c6
          generalize (p :: r) ++ [p] = lz at *
          go_wp2
          go_ret
          exact ⟨⟨lz, g9, vc9, rfl, HO9.out, HWF, hlen⟩, C8, K8⟩
        · have b0 : (y == 0) = false := beq_eq_false_iff_ne.2 e0
          by_cases e1 : y = 1
          · subst e1
            have N7 := new_below w6 (.cells #[.int .i64 p.ba, .int .i64 19, .int .i64 20] 3)
            have C7 := C6.alloc (.cells #[.int .i64 p.ba, .int .i64 19, .int .i64 20] 3)
            have K7 := K6.alloc (.cells #[.int .i64 p.ba, .int .i64 19, .int .i64 20] 3)
            have O7 := own_below HO6.out N7 (Nat.le_refl _)
            have RW : Cur.RowOf WfI (w6.alloc (.cells #[.int .i64 p.ba, .int .i64 19, .int .i64 20] 3)) w6.heap.size 3 := rowOf_new WfI w6 [p.ba, 19, 20] 3 (by
              intro z hz
              simp at hz
              rcases hz with rfl | rfl | rfl
              · exact hpw.ba
              · exact wfI (by omega)
              · exact wfI (by omega))
            have hbc : w6.heap.size ≠ c := by have := C6.lt; omega
            have HPK : Hid (∀ _ : Unit, _) := fun _ => pickInt_any C7 WfI w6.heap.size 3 3 hbc (by omega) (by omega) RW
            have k5 : (w6.alloc (.cells #[.int .i64 p.ba, .int .i64 19, .int .i64 20] 3)).cell? ⟨g, 5, none⟩ = some (.int .i64 p.be) := (N7.cell (p := ⟨g, 5, none⟩) hg1).trans c5
            have j5 : (w6.alloc (.cells #[.int .i64 p.ba, .int .i64 19, .int .i64 20] 3)).frozen? ⟨g, 5, none⟩ = false := (N7.frozen (p := ⟨g, 5, none⟩) hg1).trans f5
            clear RW C6 K6
            go_wp2_with fail
            refine (HPK.out ()).mono ?_
            generalize w6.alloc (.cells #[.int .i64 p.ba, .int .i64 19, .int .i64 20] 3) = w7 at *
            rintro e w8 ⟨⟨x8, rfl, hx8⟩, C8, M8⟩
            have K8 := K7.trans (Kb.moved M8)
            have O8 := Cur.owns_moved O7 M8 (by omega)
            have l5 : w8.cell? ⟨g, 5, none⟩ = some (.int .i64 p.be) := (M8.cell (p := ⟨g, 5, none⟩) hgc).trans k5
            have i5 : w8.frozen? ⟨g, 5, none⟩ = false := (M8.frozen (p := ⟨g, 5, none⟩) hgc).trans j5
            have C9 := C8.set g 5 (.int .i64 x8) hgc (by omega)
            have K9 := K8.set g 5 (.int .i64 x8) (by omega)
            have O9 : Hid ((w8.setCell ⟨g, 5, none⟩ (.int .i64 x8)).ownsRow w.heap.size 77 7 (.slice (some ⟨g, 0, none⟩) m2 vc) ({ p with be := x8 } :: r).length (hcells ({ p with be := x8 } :: r))) := by
              have h1 := own_setn (i := 5) O8 (.int .i64 x8)
              have h2 : ({ p with be := x8 } :: r).length = m2 := HM2.out
              rw [h2]
              exact own_wider h1 (Nat.le_succ _)
            have HWF : Hid (W7s ({ p with be := x8 } :: r)) := by
              intro q hq
              rw [List.mem_cons] at hq
              rcases hq with rfl | hq
              · exact ⟨hpw.tr, hpw.dy, hpw.co, hpw.se, hpw.ba, hx8, hpw.od, hpw.o7⟩
              · exact hrw q hq
            have HL : Hid (({ p with be := x8 } :: r).length = m2) := HM2.out
            clear HPK k5 j5 O7 O8 C7 K7 N7 M8 C8 K8 c0 c1 c2 c3 c4 c5 c6 f5 f6 hx8
            generalize { p with be := x8 } :: r = lz at *
            go_wp2
            go_ret
            exact ⟨⟨lz, g, vc, by rw [HL.out] <;> rfl, by rw [HL.out]; have := O9.out; rw [HL.out] at this; exact this, HWF.out, by rw [HL.out]; omega⟩, C9, K9⟩
          · have b1 : (y == 1) = false := beq_eq_false_iff_ne.2 e1
            by_cases e2 : y = 2
            · subst e2
              have C9 := C6.set g 6 (.int .i64 0) hgc (by omega)
              have K9 := K6.set g 6 (.int .i64 0) (by omega)
              have O9 : Hid ((w6.setCell ⟨g, 6, none⟩ (.int .i64 0)).ownsRow w.heap.size 77 7 (.slice (some ⟨g, 0, none⟩) m2 vc) ({ p with od := 0 } :: r).length (hcells ({ p with od := 0 } :: r))) := by
                have h1 := own_setn (i := 6) HO6.out (.int .i64 0)
                have h2 : ({ p with od := 0 } :: r).length = m2 := HM2.out
                rw [h2]
                exact own_wider h1 (Nat.le_succ _)
              have HWF : Hid (W7s ({ p with od := 0 } :: r)) := by
                intro q hq
                rw [List.mem_cons] at hq
                rcases hq with rfl | hq
                · exact ⟨hpw.tr, hpw.dy, hpw.co, hpw.se, hpw.ba, hpw.be, show WfI (0 : Int) from wfI (by omega), show (0 : Int) ≤ 7 by omega⟩
                · exact hrw q hq
              have HL : Hid (({ p with od := 0 } :: r).length = m2) := HM2.out
              clear C6 K6
              generalize { p with od := 0 } :: r = lz at *
              go_wp2
              go_ret
              exact ⟨⟨lz, g, vc, by rw [HL.out] <;> rfl, by rw [HL.out]; have := O9.out; rw [HL.out] at this; exact this, HWF.out, by rw [HL.out]; omega⟩, C9, K9⟩
            · have b2 : (y == 2) = false := beq_eq_false_iff_ne.2 e2
              have HOL : Hid (w6.ownsRow (w.heap.size + 1) 77 7 (.slice (some ⟨g, 0, none⟩) m2 vc) (p :: r).length (hcells (p :: r))) := by
                rw [HM2.out]
                exact HO6.out
              clear c0 c1 c2 c3 c4 c5 c6 f5 f6 HO6
              generalize p :: r = lp at *
              by_cases e3 : y = 3
              · subst e3
                rw [← HM2.out] at HOL ⊢
                have hln : 1 ≤ lp.length ∧ lp.length ≤ 401 := by rw [HM2.out]; omega
                go_wp2
                go_loopw [5] (fun v wr => ∃ (lz : List Hl) (g vc : Nat), v = .slice (some ⟨g, 0, none⟩) lz.length vc ∧ 1 ≤ lz.length ∧ lz.length ≤ 401 ∧ Is W0 a n cap c wr ∧ Kb c w wr ∧ Hid (wr.ownsRow (w.heap.size + 1) 77 7 (.slice (some ⟨g, 0, none⟩) lz.length vc) lz.length (hcells lz)) ∧ Hid (W7s lz)) (fun v _ => 402 - (match v with | .slice _ k _ => k | _ => 0))
                case atStart => exact ⟨lp, g, vc, rfl, hln.1, hln.2, C6, K6, HOL, HWL⟩
                case round =>
                  obtain ⟨lz, g, vc, rfl, hq1, hq2, Cr, Kr, HO, HWz⟩ := hrel
                  clear C6 K6 HOL HWL
                  go_wp2_with fail
                  refine (below_any Cr 2).mono ?_
                  rintro e w8 ⟨⟨x8, rfl, hx8a, hx8b⟩, C8, M8⟩
                  have hx8c := hx8b (by omega)
                  have K8 := Kr.trans (Kb.moved M8)
                  have O8 := Cur.owns_moved HO.out M8 (by omega)
                  have hz8 : w.heap.size + 1 ≤ w8.heap.size := by have := K8.size; have := C8.lt; have := (O8.lt g rfl).1; have := (O8.lt g rfl).2; omega
                  by_cases hlt : (lz.length : Int) < 400 + x8
                  · have hd : decide ((lz.length : Int) < 400 + x8) = true := decide_eq_true hlt
                    have hz3 : lz.length + 1 ≤ 401 := by omega
                    have N9 := new_below w8 (.cells #[.int .i64 9, .int .i64 (lz.length : Int), .int .i64 1, .int .i64 1, .int .i64 0, .int .i64 1, .int .i64 7] 77)
                    have m9 : (w8.alloc (.cells #[.int .i64 9, .int .i64 (lz.length : Int), .int .i64 1, .int .i64 1, .int .i64 0, .int .i64 1, .int .i64 7] 77)).heap[w8.heap.size]? = some (.cells #[.int .i64 9, .int .i64 (lz.length : Int), .int .i64 1, .int .i64 1, .int .i64 0, .int .i64 1, .int .i64 7] 77) := heap_new w8 (.cells #[.int .i64 9, .int .i64 (lz.length : Int), .int .i64 1, .int .i64 1, .int .i64 0, .int .i64 1, .int .i64 7] 77)
                    have O9 := own_below O8 N9 (Nat.le_refl _)
                    have C9 := C8.alloc (.cells #[.int .i64 9, .int .i64 (lz.length : Int), .int .i64 1, .int .i64 1, .int .i64 0, .int .i64 1, .int .i64 7] 77)
                    have K9 := K8.alloc (.cells #[.int .i64 9, .int .i64 (lz.length : Int), .int .i64 1, .int .i64 1, .int .i64 0, .int .i64 1, .int .i64 7] 77)
                    have hnc8 : (.slice (some ⟨g, 0, none⟩) lz.length vc : Value).ownBlock ≠ some c := fun h => by have := (O8.lt c h).1; omega
                    have hwf9 : W7 ⟨9, (lz.length : Int), 1, 1, 0, 1, 7⟩ := ⟨show WfI (9 : Int) from wfI (by omega), show WfI (lz.length : Int) from wfI (by omega), show WfI (1 : Int) from wfI (by omega), show WfI (1 : Int) from wfI (by omega), show WfI (0 : Int) from wfI (by omega), show WfI (1 : Int) from wfI (by omega), show WfI (7 : Int) from wfI (by omega), show (7 : Int) ≤ 7 by omega⟩
                    clear HO Cr Kr M8 hx8b hlt C8 K8
                    go_wp2_with (at_builtin; refine wpList_append_own_at _ rfl _ _ 70 rfl (w.heap.size + 1) 77 i0 (lgV ⟨0, 0, 0, 0, 0, 0, 0⟩) 7 56 Try.underlying70 hi hz0 hz1 hz2 rfl (by decide) _ _ _ rfl O9 ⟨w8.heap.size, 0, none⟩ 1 1 (hc1 ⟨9, (lz.length : Int), 1, 1, 0, 1, 7⟩) rfl rfl ?f1 ?f2 ?f3 ?f4 ?f5 ?_)
                    case f1 => exact seven_at m9
                    case f2 => intro u hu; simp [hc1] at hu; rcases hu with rfl | rfl | rfl | rfl | rfl | rfl | rfl <;> rfl
                    case f3 => unfold maxLen; omega
                    case f4 => omega
                    case f5 => exact Nat.le_trans hz8 N9.size
                    intro v' w10 O10 G10 _ _
                    have C10 := C9.grown G10 hnc8 (fun j hj => by have := (O9.lt j hj).1; omega)
                    have K10 := K9.grown G10 (fun j hj => by have := (O9.lt j hj).1; omega)
                    have O11 : w10.ownsRow (w.heap.size + 1) 77 7 v' (lz ++ [(⟨9, (lz.length : Int), 1, 1, 0, 1, 7⟩ : Hl)]).length (hcells (lz ++ [(⟨9, (lz.length : Int), 1, 1, 0, 1, 7⟩ : Hl)])) := by
                      rw [List.length_append, ← hcells_snoc]
                      exact O10
                    obtain ⟨g9, vc9, rfl, -, -, -, -⟩ := own_cell O11 (by simp)
                    have HWF : Hid (W7s (lz ++ [(⟨9, (lz.length : Int), 1, 1, 0, 1, 7⟩ : Hl)])) := w7s_snoc HWz.out hwf9
                    have HLL : Hid ((lz ++ [(⟨9, (lz.length : Int), 1, 1, 0, 1, 7⟩ : Hl)]).length = lz.length + 1) := by simp [Hid]
                    have HO11 : Hid (World.ownsRow _ _ _ _ _ _ _) := O11
                    clear O8 O9 O10 O11 G10 C9 K9 N9 m9 hwf9 HWz
                    generalize lz ++ [(⟨9, (lz.length : Int), 1, 1, 0, 1, 7⟩ : Hl)] = ly at *
                    go_wp2
                    go_roundw
                    case rel => exact ⟨ly, g9, vc9, rfl, by rw [HLL.out]; omega, by rw [HLL.out]; exact hz3, C10, K10, HO11, HWF⟩
                    case measure => show 402 - ly.length < 402 - lz.length; rw [HLL.out]; omega
                  · have hd : decide ((lz.length : Int) < 400 + x8) = false := decide_eq_false hlt
                    have OF := own_wider O8 (Nat.le_succ w.heap.size)
                    have HOF : Hid (World.ownsRow _ _ _ _ _ _ _) := OF
                    clear HO Cr Kr M8 hx8b hlt O8 OF
                    go_wp2
                    go_ret
                    exact ⟨⟨lz, g, vc, rfl, HOF.out, HWz.out, hq2⟩, C8, K8⟩
              · have b3 : (y == 3) = false := beq_eq_false_iff_ne.2 e3
                have OF : Hid (World.ownsRow _ _ _ _ _ _ _) := own_wider HOL.out (Nat.le_succ w.heap.size)
                go_wp2
                go_ret
                exact ⟨⟨lp, g, vc, by rw [HM2.out] <;> rfl, by rw [HM2.out]; have := OF.out; rw [HM2.out] at this; exact this, HWL.out, by rw [HM2.out]; omega⟩, C6, K6⟩

end Se
end Go.Proofs.Ytiollklighmojad
