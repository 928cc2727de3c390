/- The draw of a centre. -/
import Derived.Test.YtbmfhdlbbaabgaaCurCe1
import Derived.Test.YtbmfhdlbbaabgaaCeDelS
import Derived.Test.YtbmfhdlbbaabgaaCeUn
import Derived.Deep.Cut
import Derived.Deep.CutRange
import Derived.Deep.RegionHeld3
namespace Go.Proofs.Ytbmfhdlbbaabgaa
namespace Hn
open Go.ChangeShapes Go.WideShapes Go.ChangeAt Go.RowKit Go.Joins
open Pk (new_below join_below cell_at heap_new frozen_at lt_of kept heap_old Drawn info_of Room own_form own_below)
open Cur (Is Moved Bytes Kb new_any below_any pickInt_any rowOf_new RowOf owns_moved)
set_option linter.unusedSimpArgs false
set_option linter.unusedVariables false

/-- A centre as it is drawn: its lists lie in rows of their own, from lo on, and none of them is nil. -/
structure Drw (lo : Nat) (w : World) (y : Pl) (o : Ctr) : Prop where
  cp : Copied lo w y o
  fa : ∃ g, y.a = some ⟨g, 0, none⟩
  fb : ∃ g, y.b = some ⟨g, 0, none⟩
  wf : Wfs o.sl
  nl : o.ol.length ≤ 200000
  ns : o.sl.length ≤ 200000

theorem Drw.flat {lo : Nat} {w : World} {y : Pl} {o : Ctr} (h : Drw lo w y o) : Flat y := ⟨h.fa.imp fun g e => ⟨0, e⟩, h.fb.imp fun g e => ⟨0, e⟩⟩

theorem Drw.kb {lo c : Nat} {w w1 : World} {y : Pl} {o : Ctr} (h : Drw lo w y o) (K : Kb c w w1) (hc : c < lo) : Drw lo w1 y o :=
  ⟨⟨own_kb h.cp.off K hc, own_kb h.cp.seen K hc⟩, h.fa, h.fb, h.wf, h.nl, h.ns⟩

theorem Drw.on {lo : Nat} {w w1 : World} {y : Pl} {o : Ctr} (h : Drw lo w y o) (L : Below w.heap.size w w1) : Drw lo w1 y o := ⟨h.cp.on L, h.fa, h.fb, h.wf, h.nl, h.ns⟩

theorem Drw.lower {lo lo' : Nat} {w : World} {y : Pl} {o : Ctr} (h : Drw lo w y o) (hl : lo' ≤ lo) : Drw lo' w y o := ⟨h.cp.lower hl, h.fa, h.fb, h.wf, h.nl, h.ns⟩

theorem Drw.set {lo Q i : Nat} {w : World} {y : Pl} {o : Ctr} {cs : Array Value} {f : Nat × Nat} (h : Drw lo w y o) (hQ : w.heap[Q]? = some (.cells cs 27 f)) (u : Value) : Drw lo (w.setCell ⟨Q, i, none⟩ u) y o :=
  ⟨⟨own_typed h.cp.off hQ (by decide), own_typed h.cp.seen hQ (by decide)⟩, h.fa, h.fb, h.wf, h.nl, h.ns⟩

theorem set3_heap {w : World} {P : Nat} {a0 a1 a2 : Value} {t : TypeId} (h : w.heap[P]? = some (.cells #[a0, a1, a2] t (0, 0))) (v0 v1 v2 : Value) : (((w.setCell ⟨P, 0, none⟩ v0).setCell ⟨P, 1, none⟩ v1).setCell ⟨P, 2, none⟩ v2).heap[P]? = some (.cells #[v0, v1, v2] t (0, 0)) := by
  unfold World.setCell
  simp [Array.getElem?_modify, h]

theorem Drw.set3 {lo Q : Nat} {w : World} {y : Pl} {o : Ctr} {a0 a1 a2 : Value} (h : Drw lo w y o) (hQ : w.heap[Q]? = some (.cells #[a0, a1, a2] 27 (0, 0))) (v0 v1 v2 : Value) : Drw lo (((w.setCell ⟨Q, 0, none⟩ v0).setCell ⟨Q, 1, none⟩ v1).setCell ⟨Q, 2, none⟩ v2) y o := by
  have h1 := h_set (i := 0) hQ v0
  have h2 := h_set (i := 1) h1 v1
  exact ((h.set hQ v0).set h1 v1).set h2 v2

theorem is_below {W0 : World} {a : Option Addr} {n cap c B : Nat} {w w1 : World} (C : Is W0 a n cap c w) (L : Below B w w1) (hc : c < B) (hB : W0.heap.size ≤ B) : Is W0 a n cap c w1 := by
  refine ⟨C.below.trans (L.mono hB), C.ge, Nat.lt_of_lt_of_le C.lt L.size, C.len, C.code, ?_, ?_, ?_, ?_, ?_⟩
  · rw [L.cell (p := ⟨c, 0, none⟩) hc]; exact C.cb
  · obtain ⟨i, h1, h2⟩ := C.ci
    exact ⟨i, h1, by rw [L.cell (p := ⟨c, 1, none⟩) hc]; exact h2⟩
  · obtain ⟨h0, h2⟩ := C.ch
    exact ⟨h0, by rw [L.cell (p := ⟨c, 2, none⟩) hc]; exact h2⟩
  · rw [L.frozen (p := ⟨c, 1, none⟩) hc]; exact C.fi
  · rw [L.frozen (p := ⟨c, 2, none⟩) hc]; exact C.fh

theorem rev_len (o : Ctr) (x : Int) : (revO (revB o x) o x).ol.length ≤ o.ol.length + 1 := by
  cases revB o x
  · rw [rev_no]; omega
  · rw [rev_yes, ins_len]; omega

theorem rev_sl (o : Ctr) (x : Int) : (revO (revB o x) o x).sl = o.sl := by
  cases revB o x <;> rfl

theorem rev_wfs {o : Ctr} {x : Int} (h : Wfs o.sl) : Wfs (revO (revB o x) o x).sl := by rw [rev_sl]; exact h

theorem own_grown {w w1 : World} {base base' e e' size size' n m : Nat} {v u : Value} {xs ys : List Value} (h : w.ownsRow base e size v n xs) (G : w.grownBy w1 u.ownBlock) (O : w.ownsRow base' e' size' u m ys) (hne : e ≠ e') : w1.ownsRow base e size v n xs := by
  obtain ⟨h1, h2⟩ := h
  refine ⟨h1, ?_⟩
  rcases h2 with h2 | ⟨g, cap, cur, hv, hg, hh, hr⟩
  · exact Or.inl h2
  · exact Or.inr ⟨g, cap, cur, hv, hg, (G.block g (lt_of hh) (Pk.own_ne O hh hne)).trans hh, hr⟩

def lenQ (w : World) (Q : Nat) : Nat := match w.cell? ⟨Q, 2, none⟩ with
  | some (.slice _ n _) => n
  | _ => 0

set_option maxRecDepth 100000 in
set_option maxHeartbeats 8000000 in
theorem centre_any {W0 : World} {a : Option Addr} {n cap c : Nat} {w : World} (C : Is W0 a n cap c w) :
    Calls Try.prog 30 #[.pointer (some ⟨c, 0, none⟩)] w fun e w' => (∃ (y : Pl) (o : Ctr), e = .returned (ceV y o) ∧ Drw w.heap.size w' y o) ∧ Is W0 a n cap c w' ∧ Kb c w w' := by
  have hcw := C.lt
  have hW0 : W0.heap.size ≤ w.heap.size := C.below.size
  have hPc : w.heap.size ≠ c := by omega
  obtain ⟨i0, hi, hy0, hy1, hy2⟩ := info_of info_control
  have C1 := C.alloc (.cells #[.int .i64 0, .slice none 0 0, .slice none 0 0] 27)
  have K1 : Kb c w (w.alloc (.cells #[.int .i64 0, .slice none 0 0, .slice none 0 0] 27)) := (Kb.refl c w).alloc _
  have p1 := heap_new w (.cells #[.int .i64 0, .slice none 0 0, .slice none 0 0] 27)
  go_enter Try.func30, Try.ntmps30
  go_wp2_with fail
  refine (below_any C1 5).mono ?_
  generalize w.alloc (.cells #[.int .i64 0, .slice none 0 0, .slice none 0 0] 27) = v1 at *
  rintro e w2 ⟨⟨x0, rfl, hx0, hx1⟩, C2, M2⟩
  have K2 := K1.trans (Kb.moved M2)
  have p2 := (M2.block _ hPc).trans p1
  clear C1 K1 p1 M2 hx1 hx0
  go_wp2_with fail
  refine (list_any C2).mono ?_
  rintro e w3 ⟨⟨l, g, vc, rfl, O3, hwl, hl9⟩, C3, K3⟩
  have p3 := K3.at hPc p2
  have K3' := K2.trans K3
  have hs2 : w.heap.size ≤ w2.heap.size := K2.size
  obtain ⟨a3, c3, e3, J3⟩ := own_ctls O3
  simp only [Value.slice.injEq, true_and] at e3
  obtain ⟨rfl, rfl⟩ := e3
  have HD := specDel_nil x0 (some ⟨g, 0, none⟩) l vc w3 (by omega) J3
  clear C2 K2 p2 K3 O3 J3
  go_wp2_with fail
  refine HD.mono ?_
  rintro e w4 ⟨y, rfl, C4, hya, hyb, L4⟩
  have D4 : Drw w3.heap.size w4 y (delO (cenB ⟨x0, [], []⟩) ⟨x0, [], []⟩ l) := by
    refine ⟨C4, hya, hyb, ?_, ?_, ?_⟩
    · cases cenB ⟨x0, [], []⟩
      · intro p hp; simp [del_no] at hp
      · rw [del_yes]; exact del_wfs (fun p hp => by simp at hp) hwl _
    · cases cenB ⟨x0, [], []⟩
      · simp [del_no]
      · simp [del_yes]
    · cases cenB ⟨x0, [], []⟩
      · simp [del_no]
      · rw [del_yes]
        have := (del_size ⟨x0, [], []⟩ l).2
        simp at this ⊢
        omega
  have C4' : Is W0 a n cap c w4 := C3.kept L4
  have K4 : Kb c w w4 := K3'.trans (Kb.of c L4)
  have p4 := kept L4 (lt_of p3) p3
  have hs3 : w.heap.size ≤ w3.heap.size := K3'.size
  have ho4 : (delO (cenB ⟨x0, [], []⟩) ⟨x0, [], []⟩ l).ol.length ≤ 0 := by
    cases cenB ⟨x0, [], []⟩ <;> simp [del_no, del_yes]
  have hs4 : (delO (cenB ⟨x0, [], []⟩) ⟨x0, [], []⟩ l).sl.length ≤ 9 := by
    cases cenB ⟨x0, [], []⟩
    · simp [del_no]
    · rw [del_yes]
      have := (del_size ⟨x0, [], []⟩ l).2
      simp at this ⊢
      omega
  generalize delO (cenB ⟨x0, [], []⟩) ⟨x0, [], []⟩ l = o at *
  have C5 := C4'.alloc (ceB y o 27)
  have K5 := K4.alloc (ceB y o 27)
  have p5 := heap_old p4 (ceB y o 27)
  have q5 := heap_new w4 (ceB y o 27)
  have D5 : Drw w.heap.size (w4.alloc (ceB y o 27)) y o := (D4.on (new_below _ _)).lower hs3
  have hQc : w4.heap.size ≠ c := by have := C4'.lt; omega
  have hQw : w.heap.size ≤ w4.heap.size := K4.size
  have hQP : w4.heap.size ≠ w.heap.size := by have := lt_of p4; omega
  have hQW : W0.heap.size ≤ w4.heap.size := by omega
  clear HD C4 hya hyb L4 D4 C4' K4 p4 C3 K3' p3 hwl
  go_wp2_with fail
  refine (below_any C5 4).mono ?_
  generalize w4.heap.size = Q at *
  generalize w4.alloc (ceB y o 27) = w5 at *
  rintro e w6 ⟨⟨xm, rfl, hxm0, hxm1⟩, C6, M6⟩
  have hxm2 := hxm1 (by omega)
  obtain ⟨m, rfl⟩ : ∃ m : Nat, xm = m := ⟨xm.toNat, by omega⟩
  have K6 := K5.trans (Kb.moved M6)
  have p6 := (M6.block _ hPc).trans p5
  have q6 := (M6.block _ hQc).trans q5
  have D6 : Drw w.heap.size w6 y o := D5.kb (Kb.moved M6) hcw
  clear hxm0 hxm1 C5 K5 p5 q5 D5 M6
  go_wp2
  go_loopw [5] (fun i wr => ∃ (k : Nat) (y : Pl) (o : Ctr), k ≤ m ∧ i = .int .i64 k ∧ Is W0 a n cap c wr ∧ Kb c w wr ∧ wr.heap[w.heap.size]? = some (.cells #[.int .i64 0, .slice none 0 0, .slice none 0 0] 27) ∧ wr.heap[Q]? = some (ceB y o 27) ∧ Hid (Drw w.heap.size wr y o) ∧ Hid (o.ol.length ≤ k ∧ o.sl.length ≤ 9)) (fun i _ => m - (intOf i).toNat)
  case atStart => exact ⟨0, y, o, by omega, rfl, C6, K6, p6, q6, D6, ⟨by omega, hs4⟩⟩
  case round =>
    clear C6 K6 p6 q6 D6 ho4 hs4
    obtain ⟨k, y, o, hk, rfl, CR, KR, pR, qR, HD, HL⟩ := hrel
    by_cases hkm : k < m
    · go_wp2
      have HS : Hid (∀ W, Kb c wr W → (fun w' : World => w'.cell? ⟨Q, 0, none⟩ = some (.int .i64 o.ve) ∧ w'.cell? ⟨Q, 1, none⟩ = some (.slice y.a o.ol.length y.c) ∧ w'.cell? ⟨Q, 2, none⟩ = some (.slice y.b o.sl.length y.d)) W) := fun W h => ⟨cell_at (h.at hQc qR) 0, cell_at (h.at hQc qR) 1, cell_at (h.at hQc qR) 2⟩
      have HIN : Hid (∀ W, Kb c wr W → Drw w.heap.size W y o) := fun W h => HD.out.kb h hcw
      have hwr : w.heap.size ≤ wr.heap.size := KR.size
      go_cut [6] from 16 to 29 (fun s6 wc => ∃ (X : Nat) (y2 : Pl) (o2 : Ctr), s6 = .pointer (some ⟨X, 0, none⟩) ∧ wr.heap.size ≤ X ∧ wc.heap[X]? = some (ceB y2 o2 27) ∧ Is W0 a n cap c wc ∧ Kb c wr wc ∧ Hid (Drw w.heap.size wc y2 o2) ∧ Hid (o2.ol.length ≤ k + 1 ∧ o2.sl.length ≤ 9))
      case first =>
        have K0 : Kb c wr (World.drew wr) := (Kb.refl c wr).drew
        have C0 : Is W0 a n cap c (World.drew wr) := CR.drewN 1
        refine wp_region_held_drew (S := (fun w' : World => w'.cell? ⟨Q, 0, none⟩ = some (.int .i64 o.ve) ∧ w'.cell? ⟨Q, 1, none⟩ = some (.slice y.a o.ol.length y.c) ∧ w'.cell? ⟨Q, 2, none⟩ = some (.slice y.b o.sl.length y.d))) (by kernel_rfl) ?_ (fun hHeld => ?_)
        · exact HS.out _ K0
        refine wpAnyH_take (i := 0) (v := ceV y o) rfl (by kernel_rfl) (by kernel_rfl) (by kernel_rfl) (fun _ _ _ h => h) (Or.inl ⟨by kernel_rfl, fun w hSw => by first | (go_simp; done) | (dsimp only at hSw; obtain ⟨s0, s1, s2⟩ := hSw; go_simp; done) | rfl⟩) (by assumption) ?_
        simp only [Act.put, List.getElem_toArray, List.getElem_cons_succ, List.getElem_cons_zero, List.setIfInBounds_toArray, List.set_cons_succ, List.set_cons_zero]
        refine wpAnyH_take (i := 1) (v := .pointer (some ⟨c, 0, none⟩)) rfl (by kernel_rfl) (by kernel_rfl) (by kernel_rfl) (fun _ _ _ h => h) (Or.inl ⟨by kernel_rfl, fun w hSw => by first | (go_simp; done) | (dsimp only at hSw; obtain ⟨s0, s1, s2⟩ := hSw; go_simp; done) | rfl⟩) (by assumption) ?_
        simp only [Act.put, List.getElem_toArray, List.getElem_cons_succ, List.getElem_cons_zero, List.setIfInBounds_toArray, List.set_cons_succ, List.set_cons_zero]
        generalize World.drew wr = w7 at *
        refine wpAnyH_ready (rs := [2, 8]) (by kernel_rfl) (by simp) ?_
        refine AllReadyH.cons rfl (fun K hK => ?_) (AllReadyH.cons rfl (fun K hK => ?_) (AllReadyH.nil))
        · go_simp
          go_wp2_with (go_at_call 32; (with_reducible refine (below_any C0 9).mono ?_); rintro e u1 ⟨⟨x1, rfl, hx1a, hx1b⟩, C1, M1⟩)
          have K1 := K0.trans (Kb.moved M1)
          refine hK.out _ _ ?_ (fun hHeld2 => ?_)
          · exact HS.out _ (K1)
          clear hK K hHeld
          have hHeld := hHeld2
          clear hHeld2
          have hx1c := hx1b (by omega)
          obtain ⟨d1, hd1⟩ : ∃ d : Int, 1 + x1 = d := ⟨_, rfl⟩
          have q1a : wrap64 (1 + x1) = d1 := by rw [hd1]; unfold wrap64; omega
          have q1b : IntKind.i64.wrap (1 + x1) = d1 := by rw [hd1, IntKind.wrap_i64]; omega
          clear hd1 hx1a hx1b hx1c
          refine wpAnyH_take (i := 3) (v := .int .i64 d1) rfl (by kernel_rfl) (by kernel_rfl) (by kernel_rfl) (fun _ _ _ h => h) (Or.inl ⟨by kernel_rfl, fun w hSw => by first | (go_simp; done) | (dsimp only at hSw; obtain ⟨s0, s1, s2⟩ := hSw; go_simp; done) | rfl⟩) (by assumption) ?_
          simp only [Act.put, List.getElem_toArray, List.getElem_cons_succ, List.getElem_cons_zero, List.setIfInBounds_toArray, List.set_cons_succ, List.set_cons_zero]
          clear q1a q1b
          refine wpAnyH_ready (rs := [4, 8]) (by kernel_rfl) (by simp) ?_
          refine AllReadyH.cons rfl (fun K hK => ?_) (AllReadyH.cons rfl (fun K hK => ?_) (AllReadyH.nil))
          · go_simp
            have HRV := specRev_flat y o d1 u1 (by have := HL.out; omega) (by have := HL.out; omega) (HIN.out _ K1).cp.in (HIN.out _ K1).flat (HIN.out _ K1).cp.cap
            go_wp2_with (go_at_call 17; (with_reducible refine HRV.mono ?_); rintro e u2 ⟨y2, rfl, Cp2, hya, hyb, L2⟩)
            have K2 := K1.trans (Kb.of c L2)
            have C2 := C1.kept L2
            have HDX : Hid (Drw w.heap.size u2 y2 (revO (revB o d1) o d1)) := by
              refine ⟨Cp2.lower (Nat.le_trans hwr K1.size), hya, hyb, ?_, ?_, ?_⟩
              · exact rev_wfs HD.out.wf
              · have := HL.out; have := rev_len o d1; omega
              · have := HL.out; rw [rev_sl]; omega
            have HLX : Hid ((revO (revB o d1) o d1).ol.length ≤ k + 1 ∧ (revO (revB o d1) o d1).sl.length ≤ 9) := by
              have h1 := HL.out
              have h2 := rev_len o d1
              rw [rev_sl]
              exact ⟨by omega, h1.2⟩
            refine hK.out _ _ ?_ (fun hHeld2 => ?_)
            · exact HS.out _ (K2)
            clear hK K hHeld
            have hHeld := hHeld2
            clear hHeld2
            generalize revO (revB o d1) o d1 = o2 at *
            generalize revB o d1 = rb at *
            clear HRV Cp2 hya hyb L2
            refine wpAnyH_take (i := 5) (v := .tuple #[ceV y2 o2, .bool rb]) rfl (by kernel_rfl) (by kernel_rfl) (by kernel_rfl) (fun _ _ _ h => h) (Or.inl ⟨by kernel_rfl, fun w hSw => by first | (go_simp; done) | (dsimp only at hSw; obtain ⟨s0, s1, s2⟩ := hSw; go_simp; done) | rfl⟩) (by assumption) ?_
            simp only [Act.put, List.getElem_toArray, List.getElem_cons_succ, List.getElem_cons_zero, List.setIfInBounds_toArray, List.set_cons_succ, List.set_cons_zero]
            refine wpAnyH_take (i := 6) (v := ceV y2 o2) rfl (by kernel_rfl) (by kernel_rfl) (by kernel_rfl) (fun _ _ _ h => h) (Or.inl ⟨by kernel_rfl, fun w hSw => by first | (go_simp; done) | (dsimp only at hSw; obtain ⟨s0, s1, s2⟩ := hSw; go_simp; done) | rfl⟩) (by assumption) ?_
            simp only [Act.put, List.getElem_toArray, List.getElem_cons_succ, List.getElem_cons_zero, List.setIfInBounds_toArray, List.set_cons_succ, List.set_cons_zero]
            refine wpAnyH_take (i := 7) (v := .bool rb) rfl (by kernel_rfl) (by kernel_rfl) (by kernel_rfl) (fun _ _ _ h => h) (Or.inl ⟨by kernel_rfl, fun w hSw => by first | (go_simp; done) | (dsimp only at hSw; obtain ⟨s0, s1, s2⟩ := hSw; go_simp; done) | rfl⟩) (by assumption) ?_
            simp only [Act.put, List.getElem_toArray, List.getElem_cons_succ, List.getElem_cons_zero, List.setIfInBounds_toArray, List.set_cons_succ, List.set_cons_zero]
            refine wpAnyH_ready (rs := [8]) (by kernel_rfl) (by simp) ?_
            refine AllReadyH.cons rfl (fun K hK => ?_) (AllReadyH.nil)
            go_simp
            have K3 : Kb c wr (u2.alloc (.cells #[.int .i64 0, .slice none 0 0, .slice none 0 0] 27)) := K2.alloc _
            have C3 := C2.alloc (.cells #[.int .i64 0, .slice none 0 0, .slice none 0 0] 27)
            have X3 := heap_new u2 (.cells #[.int .i64 0, .slice none 0 0, .slice none 0 0] 27)
            have hXw : wr.heap.size ≤ u2.heap.size := K2.size
            have hXc : u2.heap.size ≠ c := by have := C2.lt; omega
            have hXW : W0.heap.size ≤ u2.heap.size := C2.below.size
            have HDX : Hid (Drw w.heap.size (u2.alloc (.cells #[.int .i64 0, .slice none 0 0, .slice none 0 0] 27)) y2 o2) := HDX.out.on (new_below _ _)
            refine hK.out _ _ ?_ (fun hHeld2 => ?_)
            · exact HS.out _ (K3)
            clear hK K hHeld
            have hHeld := hHeld2
            clear hHeld2
            obtain ⟨X, hXe⟩ : ∃ X, u2.heap.size = X := ⟨_, rfl⟩
            rw [hXe] at X3 hXw hXc hXW
            try rw [hXe]
            clear hXe
            generalize u2.alloc (.cells #[.int .i64 0, .slice none 0 0, .slice none 0 0] 27) = u3 at *
            have z0 : u3.cell? ⟨X, 0, none⟩ = some (.int .i64 0) := cell_at X3 0
            have fz0 : u3.frozen? ⟨X, 0, none⟩ = false := frozen_at X3 0
            have z1 : u3.cell? ⟨X, 1, none⟩ = some (.slice none 0 0) := cell_at X3 1
            have fz1 : u3.frozen? ⟨X, 1, none⟩ = false := frozen_at X3 1
            have z2 : u3.cell? ⟨X, 2, none⟩ = some (.slice none 0 0) := cell_at X3 2
            have fz2 : u3.frozen? ⟨X, 2, none⟩ = false := frozen_at X3 2
            have K9 : Kb c wr (((u3.setCell ⟨X, 0, none⟩ (.int .i64 o2.ve)).setCell ⟨X, 1, none⟩ (.slice y2.a o2.ol.length y2.c)).setCell ⟨X, 2, none⟩ (.slice y2.b o2.sl.length y2.d)) := (((K3.set X 0 (.int .i64 o2.ve) hXw).set X 1 (.slice y2.a o2.ol.length y2.c) hXw).set X 2 (.slice y2.b o2.sl.length y2.d) hXw)
            have C9 : Is W0 a n cap c (((u3.setCell ⟨X, 0, none⟩ (.int .i64 o2.ve)).setCell ⟨X, 1, none⟩ (.slice y2.a o2.ol.length y2.c)).setCell ⟨X, 2, none⟩ (.slice y2.b o2.sl.length y2.d)) := (((C3.set X 0 (.int .i64 o2.ve) hXc hXW).set X 1 (.slice y2.a o2.ol.length y2.c) hXc hXW).set X 2 (.slice y2.b o2.sl.length y2.d) hXc hXW)
            have X9 : (((u3.setCell ⟨X, 0, none⟩ (.int .i64 o2.ve)).setCell ⟨X, 1, none⟩ (.slice y2.a o2.ol.length y2.c)).setCell ⟨X, 2, none⟩ (.slice y2.b o2.sl.length y2.d)).heap[X]? = some (ceB y2 o2 27) := set3_heap X3 ..
            have D9 : Hid (Drw w.heap.size (((u3.setCell ⟨X, 0, none⟩ (.int .i64 o2.ve)).setCell ⟨X, 1, none⟩ (.slice y2.a o2.ol.length y2.c)).setCell ⟨X, 2, none⟩ (.slice y2.b o2.sl.length y2.d)) y2 o2) := HDX.out.set3 X3 _ _ _
            refine wpAnyH_ready (rs := [9]) (by kernel_rfl) (by simp) ?_
            refine AllReadyH.cons rfl (fun K hK => ?_) (AllReadyH.nil)
            go_simp
            refine hK.out _ _ ?_ (fun hHeld2 => ?_)
            · exact HS.out _ (K9)
            clear hK K hHeld
            have hHeld := hHeld2
            clear hHeld2
            refine wpAnyH_ready (rs := [10]) (by kernel_rfl) (by simp) ?_
            refine AllReadyH.cons rfl (fun K hK => ?_) (AllReadyH.nil)
            go_simp
            refine hK.out _ _ ?_ (fun hHeld2 => ?_)
            · exact HS.out _ (K9)
            clear hK K hHeld
            have hHeld := hHeld2
            clear hHeld2
            refine wpAnyH_done (by kernel_rfl) ?_ _
            clear hHeld z0 fz0 z1 fz1 z2 fz2
            go_wp2
            go_meet
            case rel => exact ⟨X, y2, o2, rfl, hXw, X9, C9, K9, D9, HLX⟩
          · go_simp
            have K4 : Kb c wr (u1.alloc (.cells #[.int .i64 0, .slice none 0 0, .slice none 0 0] 27)) := K1.alloc _
            have C4 := C1.alloc (.cells #[.int .i64 0, .slice none 0 0, .slice none 0 0] 27)
            have X4 := heap_new u1 (.cells #[.int .i64 0, .slice none 0 0, .slice none 0 0] 27)
            have hXw : wr.heap.size ≤ u1.heap.size := K1.size
            have hXc : u1.heap.size ≠ c := by have := C1.lt; omega
            have hXW : W0.heap.size ≤ u1.heap.size := C1.below.size
            refine hK.out _ _ ?_ (fun hHeld2 => ?_)
            · exact HS.out _ (K4)
            clear hK K hHeld
            have hHeld := hHeld2
            clear hHeld2
            obtain ⟨X, hXe⟩ : ∃ X, u1.heap.size = X := ⟨_, rfl⟩
            rw [hXe] at X4 hXw hXc hXW
            try rw [hXe]
            clear hXe
            generalize u1.alloc (.cells #[.int .i64 0, .slice none 0 0, .slice none 0 0] 27) = u4 at *
            refine wpAnyH_ready (rs := [4]) (by kernel_rfl) (by simp) ?_
            refine AllReadyH.cons rfl (fun K hK => ?_) (AllReadyH.nil)
            go_simp
            have HRV := specRev_flat y o d1 u4 (by have := HL.out; omega) (by have := HL.out; omega) (HIN.out _ K4).cp.in (HIN.out _ K4).flat (HIN.out _ K4).cp.cap
            go_wp2_with (go_at_call 17; (with_reducible refine HRV.mono ?_); rintro e u5 ⟨y2, rfl, Cp5, hya, hyb, L5⟩)
            have K5 := K4.trans (Kb.of c L5)
            have C5 := C4.kept L5
            have X5 := kept L5 (lt_of X4) X4
            have HDX : Hid (Drw w.heap.size u5 y2 (revO (revB o d1) o d1)) := by
              refine ⟨Cp5.lower (Nat.le_trans hwr K4.size), hya, hyb, ?_, ?_, ?_⟩
              · exact rev_wfs HD.out.wf
              · have := HL.out; have := rev_len o d1; omega
              · have := HL.out; rw [rev_sl]; omega
            have HLX : Hid ((revO (revB o d1) o d1).ol.length ≤ k + 1 ∧ (revO (revB o d1) o d1).sl.length ≤ 9) := by
              have h1 := HL.out
              have h2 := rev_len o d1
              rw [rev_sl]
              exact ⟨by omega, h1.2⟩
            refine hK.out _ _ ?_ (fun hHeld2 => ?_)
            · exact HS.out _ (K5)
            clear hK K hHeld
            have hHeld := hHeld2
            clear hHeld2
            generalize revO (revB o d1) o d1 = o2 at *
            generalize revB o d1 = rb at *
            clear HRV Cp5 hya hyb L5
            refine wpAnyH_take (i := 5) (v := .tuple #[ceV y2 o2, .bool rb]) rfl (by kernel_rfl) (by kernel_rfl) (by kernel_rfl) (fun _ _ _ h => h) (Or.inl ⟨by kernel_rfl, fun w hSw => by first | (go_simp; done) | (dsimp only at hSw; obtain ⟨s0, s1, s2⟩ := hSw; go_simp; done) | rfl⟩) (by assumption) ?_
            simp only [Act.put, List.getElem_toArray, List.getElem_cons_succ, List.getElem_cons_zero, List.setIfInBounds_toArray, List.set_cons_succ, List.set_cons_zero]
            refine wpAnyH_take (i := 6) (v := ceV y2 o2) rfl (by kernel_rfl) (by kernel_rfl) (by kernel_rfl) (fun _ _ _ h => h) (Or.inl ⟨by kernel_rfl, fun w hSw => by first | (go_simp; done) | (dsimp only at hSw; obtain ⟨s0, s1, s2⟩ := hSw; go_simp; done) | rfl⟩) (by assumption) ?_
            simp only [Act.put, List.getElem_toArray, List.getElem_cons_succ, List.getElem_cons_zero, List.setIfInBounds_toArray, List.set_cons_succ, List.set_cons_zero]
            refine wpAnyH_take (i := 7) (v := .bool rb) rfl (by kernel_rfl) (by kernel_rfl) (by kernel_rfl) (fun _ _ _ h => h) (Or.inl ⟨by kernel_rfl, fun w hSw => by first | (go_simp; done) | (dsimp only at hSw; obtain ⟨s0, s1, s2⟩ := hSw; go_simp; done) | rfl⟩) (by assumption) ?_
            simp only [Act.put, List.getElem_toArray, List.getElem_cons_succ, List.getElem_cons_zero, List.setIfInBounds_toArray, List.set_cons_succ, List.set_cons_zero]
            have z0 : u5.cell? ⟨X, 0, none⟩ = some (.int .i64 0) := cell_at X5 0
            have fz0 : u5.frozen? ⟨X, 0, none⟩ = false := frozen_at X5 0
            have z1 : u5.cell? ⟨X, 1, none⟩ = some (.slice none 0 0) := cell_at X5 1
            have fz1 : u5.frozen? ⟨X, 1, none⟩ = false := frozen_at X5 1
            have z2 : u5.cell? ⟨X, 2, none⟩ = some (.slice none 0 0) := cell_at X5 2
            have fz2 : u5.frozen? ⟨X, 2, none⟩ = false := frozen_at X5 2
            have K9 : Kb c wr (((u5.setCell ⟨X, 0, none⟩ (.int .i64 o2.ve)).setCell ⟨X, 1, none⟩ (.slice y2.a o2.ol.length y2.c)).setCell ⟨X, 2, none⟩ (.slice y2.b o2.sl.length y2.d)) := (((K5.set X 0 (.int .i64 o2.ve) hXw).set X 1 (.slice y2.a o2.ol.length y2.c) hXw).set X 2 (.slice y2.b o2.sl.length y2.d) hXw)
            have C9 : Is W0 a n cap c (((u5.setCell ⟨X, 0, none⟩ (.int .i64 o2.ve)).setCell ⟨X, 1, none⟩ (.slice y2.a o2.ol.length y2.c)).setCell ⟨X, 2, none⟩ (.slice y2.b o2.sl.length y2.d)) := (((C5.set X 0 (.int .i64 o2.ve) hXc hXW).set X 1 (.slice y2.a o2.ol.length y2.c) hXc hXW).set X 2 (.slice y2.b o2.sl.length y2.d) hXc hXW)
            have X9 : (((u5.setCell ⟨X, 0, none⟩ (.int .i64 o2.ve)).setCell ⟨X, 1, none⟩ (.slice y2.a o2.ol.length y2.c)).setCell ⟨X, 2, none⟩ (.slice y2.b o2.sl.length y2.d)).heap[X]? = some (ceB y2 o2 27) := set3_heap X5 ..
            have D9 : Hid (Drw w.heap.size (((u5.setCell ⟨X, 0, none⟩ (.int .i64 o2.ve)).setCell ⟨X, 1, none⟩ (.slice y2.a o2.ol.length y2.c)).setCell ⟨X, 2, none⟩ (.slice y2.b o2.sl.length y2.d)) y2 o2) := HDX.out.set3 X5 _ _ _
            refine wpAnyH_ready (rs := [9]) (by kernel_rfl) (by simp) ?_
            refine AllReadyH.cons rfl (fun K hK => ?_) (AllReadyH.nil)
            go_simp
            refine hK.out _ _ ?_ (fun hHeld2 => ?_)
            · exact HS.out _ (K9)
            clear hK K hHeld
            have hHeld := hHeld2
            clear hHeld2
            refine wpAnyH_ready (rs := [10]) (by kernel_rfl) (by simp) ?_
            refine AllReadyH.cons rfl (fun K hK => ?_) (AllReadyH.nil)
            go_simp
            refine hK.out _ _ ?_ (fun hHeld2 => ?_)
            · exact HS.out _ (K9)
            clear hK K hHeld
            have hHeld := hHeld2
            clear hHeld2
            refine wpAnyH_done (by kernel_rfl) ?_ _
            clear hHeld z0 fz0 z1 fz1 z2 fz2
            go_wp2
            go_meet
            case rel => exact ⟨X, y2, o2, rfl, hXw, X9, C9, K9, D9, HLX⟩
        · go_simp
          have K6 : Kb c wr (w7.alloc (.cells #[.int .i64 0, .slice none 0 0, .slice none 0 0] 27)) := K0.alloc _
          have C6 := C0.alloc (.cells #[.int .i64 0, .slice none 0 0, .slice none 0 0] 27)
          have X6 := heap_new w7 (.cells #[.int .i64 0, .slice none 0 0, .slice none 0 0] 27)
          have hXw : wr.heap.size ≤ w7.heap.size := K0.size
          have hXc : w7.heap.size ≠ c := by have := C0.lt; omega
          have hXW : W0.heap.size ≤ w7.heap.size := C0.below.size
          refine hK.out _ _ ?_ (fun hHeld2 => ?_)
          · exact HS.out _ (K6)
          clear hK K hHeld
          have hHeld := hHeld2
          clear hHeld2
          obtain ⟨X, hXe⟩ : ∃ X, w7.heap.size = X := ⟨_, rfl⟩
          rw [hXe] at X6 hXw hXc hXW
          try rw [hXe]
          clear hXe
          generalize w7.alloc (.cells #[.int .i64 0, .slice none 0 0, .slice none 0 0] 27) = u6 at *
          refine wpAnyH_ready (rs := [2]) (by kernel_rfl) (by simp) ?_
          refine AllReadyH.cons rfl (fun K hK => ?_) (AllReadyH.nil)
          go_simp
          go_wp2_with (go_at_call 32; (with_reducible refine (below_any C6 9).mono ?_); rintro e u7 ⟨⟨x7, rfl, hx7a, hx7b⟩, C7, M7⟩)
          have K7 := K6.trans (Kb.moved M7)
          have X7 : u7.heap[X]? = some (.cells #[.int .i64 0, .slice none 0 0, .slice none 0 0] 27) := (M7.block X hXc).trans X6
          refine hK.out _ _ ?_ (fun hHeld2 => ?_)
          · exact HS.out _ (K7)
          clear hK K hHeld
          have hHeld := hHeld2
          clear hHeld2
          have hx7c := hx7b (by omega)
          obtain ⟨d1, hd1⟩ : ∃ d : Int, 1 + x7 = d := ⟨_, rfl⟩
          have q1a : wrap64 (1 + x7) = d1 := by rw [hd1]; unfold wrap64; omega
          have q1b : IntKind.i64.wrap (1 + x7) = d1 := by rw [hd1, IntKind.wrap_i64]; omega
          clear hd1 hx7a hx7b hx7c
          refine wpAnyH_take (i := 3) (v := .int .i64 d1) rfl (by kernel_rfl) (by kernel_rfl) (by kernel_rfl) (fun _ _ _ h => h) (Or.inl ⟨by kernel_rfl, fun w hSw => by first | (go_simp; done) | (dsimp only at hSw; obtain ⟨s0, s1, s2⟩ := hSw; go_simp; done) | rfl⟩) (by assumption) ?_
          simp only [Act.put, List.getElem_toArray, List.getElem_cons_succ, List.getElem_cons_zero, List.setIfInBounds_toArray, List.set_cons_succ, List.set_cons_zero]
          clear q1a q1b
          refine wpAnyH_ready (rs := [4]) (by kernel_rfl) (by simp) ?_
          refine AllReadyH.cons rfl (fun K hK => ?_) (AllReadyH.nil)
          go_simp
          have HRV := specRev_flat y o d1 u7 (by have := HL.out; omega) (by have := HL.out; omega) (HIN.out _ K7).cp.in (HIN.out _ K7).flat (HIN.out _ K7).cp.cap
          go_wp2_with (go_at_call 17; (with_reducible refine HRV.mono ?_); rintro e u8 ⟨y2, rfl, Cp8, hya, hyb, L8⟩)
          have K8 := K7.trans (Kb.of c L8)
          have C8 := C7.kept L8
          have X8 := kept L8 (lt_of X7) X7
          have HDX : Hid (Drw w.heap.size u8 y2 (revO (revB o d1) o d1)) := by
            refine ⟨Cp8.lower (Nat.le_trans hwr K7.size), hya, hyb, ?_, ?_, ?_⟩
            · exact rev_wfs HD.out.wf
            · have := HL.out; have := rev_len o d1; omega
            · have := HL.out; rw [rev_sl]; omega
          have HLX : Hid ((revO (revB o d1) o d1).ol.length ≤ k + 1 ∧ (revO (revB o d1) o d1).sl.length ≤ 9) := by
            have h1 := HL.out
            have h2 := rev_len o d1
            rw [rev_sl]
            exact ⟨by omega, h1.2⟩
          refine hK.out _ _ ?_ (fun hHeld2 => ?_)
          · exact HS.out _ (K8)
          clear hK K hHeld
          have hHeld := hHeld2
          clear hHeld2
          generalize revO (revB o d1) o d1 = o2 at *
          generalize revB o d1 = rb at *
          clear HRV Cp8 hya hyb L8
          refine wpAnyH_take (i := 5) (v := .tuple #[ceV y2 o2, .bool rb]) rfl (by kernel_rfl) (by kernel_rfl) (by kernel_rfl) (fun _ _ _ h => h) (Or.inl ⟨by kernel_rfl, fun w hSw => by first | (go_simp; done) | (dsimp only at hSw; obtain ⟨s0, s1, s2⟩ := hSw; go_simp; done) | rfl⟩) (by assumption) ?_
          simp only [Act.put, List.getElem_toArray, List.getElem_cons_succ, List.getElem_cons_zero, List.setIfInBounds_toArray, List.set_cons_succ, List.set_cons_zero]
          refine wpAnyH_take (i := 6) (v := ceV y2 o2) rfl (by kernel_rfl) (by kernel_rfl) (by kernel_rfl) (fun _ _ _ h => h) (Or.inl ⟨by kernel_rfl, fun w hSw => by first | (go_simp; done) | (dsimp only at hSw; obtain ⟨s0, s1, s2⟩ := hSw; go_simp; done) | rfl⟩) (by assumption) ?_
          simp only [Act.put, List.getElem_toArray, List.getElem_cons_succ, List.getElem_cons_zero, List.setIfInBounds_toArray, List.set_cons_succ, List.set_cons_zero]
          refine wpAnyH_take (i := 7) (v := .bool rb) rfl (by kernel_rfl) (by kernel_rfl) (by kernel_rfl) (fun _ _ _ h => h) (Or.inl ⟨by kernel_rfl, fun w hSw => by first | (go_simp; done) | (dsimp only at hSw; obtain ⟨s0, s1, s2⟩ := hSw; go_simp; done) | rfl⟩) (by assumption) ?_
          simp only [Act.put, List.getElem_toArray, List.getElem_cons_succ, List.getElem_cons_zero, List.setIfInBounds_toArray, List.set_cons_succ, List.set_cons_zero]
          have z0 : u8.cell? ⟨X, 0, none⟩ = some (.int .i64 0) := cell_at X8 0
          have fz0 : u8.frozen? ⟨X, 0, none⟩ = false := frozen_at X8 0
          have z1 : u8.cell? ⟨X, 1, none⟩ = some (.slice none 0 0) := cell_at X8 1
          have fz1 : u8.frozen? ⟨X, 1, none⟩ = false := frozen_at X8 1
          have z2 : u8.cell? ⟨X, 2, none⟩ = some (.slice none 0 0) := cell_at X8 2
          have fz2 : u8.frozen? ⟨X, 2, none⟩ = false := frozen_at X8 2
          have K9 : Kb c wr (((u8.setCell ⟨X, 0, none⟩ (.int .i64 o2.ve)).setCell ⟨X, 1, none⟩ (.slice y2.a o2.ol.length y2.c)).setCell ⟨X, 2, none⟩ (.slice y2.b o2.sl.length y2.d)) := (((K8.set X 0 (.int .i64 o2.ve) hXw).set X 1 (.slice y2.a o2.ol.length y2.c) hXw).set X 2 (.slice y2.b o2.sl.length y2.d) hXw)
          have C9 : Is W0 a n cap c (((u8.setCell ⟨X, 0, none⟩ (.int .i64 o2.ve)).setCell ⟨X, 1, none⟩ (.slice y2.a o2.ol.length y2.c)).setCell ⟨X, 2, none⟩ (.slice y2.b o2.sl.length y2.d)) := (((C8.set X 0 (.int .i64 o2.ve) hXc hXW).set X 1 (.slice y2.a o2.ol.length y2.c) hXc hXW).set X 2 (.slice y2.b o2.sl.length y2.d) hXc hXW)
          have X9 : (((u8.setCell ⟨X, 0, none⟩ (.int .i64 o2.ve)).setCell ⟨X, 1, none⟩ (.slice y2.a o2.ol.length y2.c)).setCell ⟨X, 2, none⟩ (.slice y2.b o2.sl.length y2.d)).heap[X]? = some (ceB y2 o2 27) := set3_heap X8 ..
          have D9 : Hid (Drw w.heap.size (((u8.setCell ⟨X, 0, none⟩ (.int .i64 o2.ve)).setCell ⟨X, 1, none⟩ (.slice y2.a o2.ol.length y2.c)).setCell ⟨X, 2, none⟩ (.slice y2.b o2.sl.length y2.d)) y2 o2) := HDX.out.set3 X8 _ _ _
          refine wpAnyH_ready (rs := [9]) (by kernel_rfl) (by simp) ?_
          refine AllReadyH.cons rfl (fun K hK => ?_) (AllReadyH.nil)
          go_simp
          refine hK.out _ _ ?_ (fun hHeld2 => ?_)
          · exact HS.out _ (K9)
          clear hK K hHeld
          have hHeld := hHeld2
          clear hHeld2
          refine wpAnyH_ready (rs := [10]) (by kernel_rfl) (by simp) ?_
          refine AllReadyH.cons rfl (fun K hK => ?_) (AllReadyH.nil)
          go_simp
          refine hK.out _ _ ?_ (fun hHeld2 => ?_)
          · exact HS.out _ (K9)
          clear hK K hHeld
          have hHeld := hHeld2
          clear hHeld2
          refine wpAnyH_done (by kernel_rfl) ?_ _
          clear hHeld z0 fz0 z1 fz1 z2 fz2
          go_wp2
          go_meet
          case rel => exact ⟨X, y2, o2, rfl, hXw, X9, C9, K9, D9, HLX⟩
      obtain ⟨X, y2, o2, rfl, hXw, x6, C7, K7, HD7, HL7⟩ := hcut
      have q7 := K7.at hQc qR
      have p7 := K7.at hPc pR
      have a0 : wc.cell? ⟨X, 0, none⟩ = some (.int .i64 o2.ve) := cell_at x6 0
      have a1 : wc.cell? ⟨X, 1, none⟩ = some (.slice y2.a o2.ol.length y2.c) := cell_at x6 1
      have a2 : wc.cell? ⟨X, 2, none⟩ = some (.slice y2.b o2.sl.length y2.d) := cell_at x6 2
      have b0 : wc.cell? ⟨Q, 0, none⟩ = some (.int .i64 o.ve) := cell_at q7 0
      have b1 : wc.cell? ⟨Q, 1, none⟩ = some (.slice y.a o.ol.length y.c) := cell_at q7 1
      have b2 : wc.cell? ⟨Q, 2, none⟩ = some (.slice y.b o.sl.length y.d) := cell_at q7 2
      have f0 : wc.frozen? ⟨Q, 0, none⟩ = false := frozen_at q7 0
      have f1 : wc.frozen? ⟨Q, 1, none⟩ = false := frozen_at q7 1
      have f2 : wc.frozen? ⟨Q, 2, none⟩ = false := frozen_at q7 2
      have K7w := KR.trans K7
      have C9 : Is W0 a n cap c (((wc.setCell ⟨Q, 0, none⟩ (.int .i64 o2.ve)).setCell ⟨Q, 1, none⟩ (.slice y2.a o2.ol.length y2.c)).setCell ⟨Q, 2, none⟩ (.slice y2.b o2.sl.length y2.d)) := (((C7.set Q 0 (.int .i64 o2.ve) hQc hQW).set Q 1 (.slice y2.a o2.ol.length y2.c) hQc hQW).set Q 2 (.slice y2.b o2.sl.length y2.d) hQc hQW)
      have K9 : Kb c w (((wc.setCell ⟨Q, 0, none⟩ (.int .i64 o2.ve)).setCell ⟨Q, 1, none⟩ (.slice y2.a o2.ol.length y2.c)).setCell ⟨Q, 2, none⟩ (.slice y2.b o2.sl.length y2.d)) := (((K7w.set Q 0 (.int .i64 o2.ve) hQw).set Q 1 (.slice y2.a o2.ol.length y2.c) hQw).set Q 2 (.slice y2.b o2.sl.length y2.d) hQw)
      have q9 : (((wc.setCell ⟨Q, 0, none⟩ (.int .i64 o2.ve)).setCell ⟨Q, 1, none⟩ (.slice y2.a o2.ol.length y2.c)).setCell ⟨Q, 2, none⟩ (.slice y2.b o2.sl.length y2.d)).heap[Q]? = some (ceB y2 o2 27) := set3_heap q7 _ _ _
      have p9 : (((wc.setCell ⟨Q, 0, none⟩ (.int .i64 o2.ve)).setCell ⟨Q, 1, none⟩ (.slice y2.a o2.ol.length y2.c)).setCell ⟨Q, 2, none⟩ (.slice y2.b o2.sl.length y2.d)).heap[w.heap.size]? = some (.cells #[.int .i64 0, .slice none 0 0, .slice none 0 0] 27) := h_other (i := 2) (h_other (i := 1) (h_other (i := 0) p7 (fun h => hQP h.symm) _) (fun h => hQP h.symm) _) (fun h => hQP h.symm) _
      have D9 : Hid (Drw w.heap.size (((wc.setCell ⟨Q, 0, none⟩ (.int .i64 o2.ve)).setCell ⟨Q, 1, none⟩ (.slice y2.a o2.ol.length y2.c)).setCell ⟨Q, 2, none⟩ (.slice y2.b o2.sl.length y2.d)) y2 o2) := HD7.out.set3 q7 _ _ _
      clear x6 C7 K7 K7w HD7 q7 p7 HS HIN HD HL CR KR pR qR
      go_wp2
      go_roundw
      case rel => exact ⟨k + 1, y2, o2, by omega, by go_num, C9, K9, p9, q9, D9, HL7⟩
      case measure => simp [intOf]; omega
    · obtain rfl : k = m := by omega
      go_wp2_with fail
      refine (below_any CR 20).mono ?_
      rintro e w8 ⟨⟨s, rfl, hs0, hs1⟩, C8, M8⟩
      have K8 := KR.trans (Kb.moved M8)
      have p8 := (M8.block _ hPc).trans pR
      have q8 := (M8.block _ hQc).trans qR
      have D8 : Drw w.heap.size w8 y o := HD.out.kb (Kb.moved M8) hcw
      have HN : Hid (o.sl.length ≤ 9) := HL.out.2
      clear CR KR pR qR HD HL M8 hs0 hs1
      by_cases h0 : s = 0
      · subst h0
        have hPQ : w.heap.size ≠ Q := fun h => hQP h.symm
        have a0 : w8.cell? ⟨Q, 0, none⟩ = some (.int .i64 o.ve) := cell_at q8 0
        have a1 : w8.cell? ⟨Q, 1, none⟩ = some (.slice y.a o.ol.length y.c) := cell_at q8 1
        have a2 : w8.cell? ⟨Q, 2, none⟩ = some (.slice y.b o.sl.length y.d) := cell_at q8 2
        have b0 : w8.cell? ⟨w.heap.size, 0, none⟩ = some (.int .i64 0) := cell_at p8 0
        have b1 : w8.cell? ⟨w.heap.size, 1, none⟩ = some (.slice none 0 0) := cell_at p8 1
        have b2 : w8.cell? ⟨w.heap.size, 2, none⟩ = some (.slice none 0 0) := cell_at p8 2
        have g0 : w8.frozen? ⟨Q, 0, none⟩ = false := frozen_at q8 0
        have g1 : w8.frozen? ⟨Q, 1, none⟩ = false := frozen_at q8 1
        have g2 : w8.frozen? ⟨Q, 2, none⟩ = false := frozen_at q8 2
        have f0 : w8.frozen? ⟨w.heap.size, 0, none⟩ = false := frozen_at p8 0
        have f1 : w8.frozen? ⟨w.heap.size, 1, none⟩ = false := frozen_at p8 1
        have f2 : w8.frozen? ⟨w.heap.size, 2, none⟩ = false := frozen_at p8 2
        have HDF : Hid (Drw w.heap.size (w8.setCell ⟨Q, 0, none⟩ (.int .i64 (-1))) y ⟨-1, o.ol, o.sl⟩) := ⟨⟨(D8.set q8 _).cp.off, (D8.set q8 _).cp.seen⟩, D8.fa, D8.fb, D8.wf, D8.nl, D8.ns⟩
        have HP8 : Hid ((w8.setCell ⟨Q, 0, none⟩ (.int .i64 (-1))).heap[w.heap.size]? = some (.cells #[.int .i64 0, .slice none 0 0, .slice none 0 0] 27)) := h_other (i := 0) p8 hPQ _
        have HC8 : Hid (Is W0 a n cap c (w8.setCell ⟨Q, 0, none⟩ (.int .i64 (-1)))) := C8.set Q 0 _ hQc hQW
        have HK8 : Hid (Kb c w (w8.setCell ⟨Q, 0, none⟩ (.int .i64 (-1)))) := K8.set Q 0 _ hQw
        clear D8 q8 p8 C8 K8
        go_wp2
        refine bodyPost_ret (v := ceV y ⟨-1, o.ol, o.sl⟩) (by simp [results, Try.results30, go_sem, b0, b1, b2, hQP, hQP.symm]) rfl ?_
        exact ⟨⟨y, ⟨-1, o.ol, o.sl⟩, rfl, HDF.out.set3 HP8.out _ _ _⟩, (((HC8.out.set w.heap.size 0 _ hPc hW0).set w.heap.size 1 _ hPc hW0).set w.heap.size 2 _ hPc hW0), (((HK8.out.set w.heap.size 0 _ (Nat.le_refl _)).set w.heap.size 1 _ (Nat.le_refl _)).set w.heap.size 2 _ (Nat.le_refl _))⟩
      have d0 : decide (s = 0) = false := decide_eq_false h0
      by_cases h1 : s = 1
      · subst h1
        have hPQ : w.heap.size ≠ Q := fun h => hQP h.symm
        have a0 : w8.cell? ⟨Q, 0, none⟩ = some (.int .i64 o.ve) := cell_at q8 0
        have a1 : w8.cell? ⟨Q, 1, none⟩ = some (.slice y.a o.ol.length y.c) := cell_at q8 1
        have a2 : w8.cell? ⟨Q, 2, none⟩ = some (.slice y.b o.sl.length y.d) := cell_at q8 2
        have HFA : Hid (∃ g, y.a = some ⟨g, 0, none⟩) := D8.fa
        have HWF : Hid (Wfs o.sl) := D8.wf
        have HNL : Hid (o.ol.length ≤ 200000) := D8.nl
        have OS := own_below D8.cp.seen (new_below w8 (.cells #[.int .i64 1, .int .i64 1, .int .i64 0, .int .i64 0, .int .i64 0, .int .i64 0] 37)) (Nat.le_refl _)
        have OF := own_below D8.cp.off (new_below w8 (.cells #[.int .i64 1, .int .i64 1, .int .i64 0, .int .i64 0, .int .i64 0, .int .i64 0] 37)) (Nat.le_refl _)
        have CA := C8.alloc (.cells #[.int .i64 1, .int .i64 1, .int .i64 0, .int .i64 0, .int .i64 0, .int .i64 0] 37)
        have KA := K8.alloc (.cells #[.int .i64 1, .int .i64 1, .int .i64 0, .int .i64 0, .int .i64 0, .int .i64 0] 37)
        have qA := heap_old q8 (.cells #[.int .i64 1, .int .i64 1, .int .i64 0, .int .i64 0, .int .i64 0, .int .i64 0] 37)
        have pA := heap_old p8 (.cells #[.int .i64 1, .int .i64 1, .int .i64 0, .int .i64 0, .int .i64 0, .int .i64 0] 37)
        have hsA : w.heap.size ≤ (w8.alloc (.cells #[.int .i64 1, .int .i64 1, .int .i64 0, .int .i64 0, .int .i64 0, .int .i64 0] 37)).heap.size := KA.size
        have HG : Hid (∀ j u, (cc1 (⟨1, 1, 0, 0, 0, 0⟩ : Ct))[j]? = some u → (w8.alloc (.cells #[.int .i64 1, .int .i64 1, .int .i64 0, .int .i64 0, .int .i64 0, .int .i64 0] 37)).cell? (Addr.add ⟨w8.heap.size, 0, none⟩ j) = some u) := six_at (p := (⟨1, 1, 0, 0, 0, 0⟩ : Ct))
        go_wp2_with (at_builtin; refine wpList_append_own_at _ rfl _ _ 25 rfl w.heap.size 37 i0 (lgV ⟨0, 0, 0, 0, 0, 0⟩) 6 48 Try.underlying25 hi hy0 hy1 hy2 rfl (by decide) _ _ _ rfl OS ⟨w8.heap.size, 0, none⟩ 1 1 (cc1 (⟨1, 1, 0, 0, 0, 0⟩ : Ct)) rfl rfl ?c1 ?c2 ?c3 ?c4 ?c5 ?_)
        case c1 => exact HG.out
        case c2 => exact cc1_one _
        case c3 => have := HN.out; unfold maxLen; omega
        case c4 => have := HN.out; omega
        case c5 => exact hsA
        intro v' w9 O9 G9 _ _
        have C9 : Is W0 a n cap c w9 := CA.grown G9 (fun h => by have := (OS.lt _ h).1; omega) (fun k h => by have := (OS.lt _ h).1; omega)
        have K9 : Kb c w w9 := KA.grown G9 (fun k h => (OS.lt _ h).1)
        have q9 : w9.heap[Q]? = _ := (G9.block Q (lt_of qA) (Pk.own_ne OS qA (by decide))).trans qA
        have p9 : w9.heap[w.heap.size]? = _ := (G9.block _ (lt_of pA) (Pk.own_ne OS pA (by decide))).trans pA
        have F9 := own_grown OF G9 OS (by decide)
        rw [ccells_snoc] at O9
        obtain ⟨va, vc2, rfl, -⟩ := own_form O9
        have e9 : o.sl.length + 1 = (o.sl ++ [(⟨1, 1, 0, 0, 0, 0⟩ : Ct)]).length := by simp
        have O9' := O9
        rw [e9] at O9'
        obtain ⟨g9, rfl⟩ := own_some O9' (by simp)
        have HDF : Hid (Drw w.heap.size (w9.setCell ⟨Q, 2, none⟩ (.slice (some ⟨g9, 0, none⟩) (o.sl.length + 1) vc2)) ⟨y.a, y.c, some ⟨g9, 0, none⟩, vc2⟩ ⟨o.ve, o.ol, o.sl ++ [(⟨1, 1, 0, 0, 0, 0⟩ : Ct)]⟩) := by
          refine ⟨⟨own_typed F9 q9 (by decide), ?_⟩, HFA.out, ⟨_, rfl⟩, wfs_snoc HWF.out ⟨wfS (by dsimp only; omega), wfS (by dsimp only; omega), wfS (by dsimp only; omega), wfS (by dsimp only; omega), wfS (by dsimp only; omega), wfS (by dsimp only; omega)⟩, HNL.out, ?_⟩
          · exact own_typed O9' q9 (by decide)
          · have := HN.out; simp; omega
        have HP8 : Hid ((w9.setCell ⟨Q, 2, none⟩ (.slice (some ⟨g9, 0, none⟩) (o.sl.length + 1) vc2)).heap[w.heap.size]? = some (.cells #[.int .i64 0, .slice none 0 0, .slice none 0 0] 27)) := h_other (i := 2) p9 hPQ _
        have HC8 : Hid (Is W0 a n cap c (w9.setCell ⟨Q, 2, none⟩ (.slice (some ⟨g9, 0, none⟩) (o.sl.length + 1) vc2))) := C9.set Q 2 _ hQc hQW
        have HK8 : Hid (Kb c w (w9.setCell ⟨Q, 2, none⟩ (.slice (some ⟨g9, 0, none⟩) (o.sl.length + 1) vc2))) := K9.set Q 2 _ hQw
        have cc0 : w9.cell? ⟨Q, 0, none⟩ = some (.int .i64 o.ve) := cell_at q9 0
        have cc1 : w9.cell? ⟨Q, 1, none⟩ = some (.slice y.a o.ol.length y.c) := cell_at q9 1
        have cc2 : w9.cell? ⟨Q, 2, none⟩ = some (.slice y.b o.sl.length y.d) := cell_at q9 2
        have b0 : w9.cell? ⟨w.heap.size, 0, none⟩ = some (.int .i64 0) := cell_at p9 0
        have b1 : w9.cell? ⟨w.heap.size, 1, none⟩ = some (.slice none 0 0) := cell_at p9 1
        have b2 : w9.cell? ⟨w.heap.size, 2, none⟩ = some (.slice none 0 0) := cell_at p9 2
        have g0 : w9.frozen? ⟨Q, 0, none⟩ = false := frozen_at q9 0
        have g1 : w9.frozen? ⟨Q, 1, none⟩ = false := frozen_at q9 1
        have g2 : w9.frozen? ⟨Q, 2, none⟩ = false := frozen_at q9 2
        have f0 : w9.frozen? ⟨w.heap.size, 0, none⟩ = false := frozen_at p9 0
        have f1 : w9.frozen? ⟨w.heap.size, 1, none⟩ = false := frozen_at p9 1
        have f2 : w9.frozen? ⟨w.heap.size, 2, none⟩ = false := frozen_at p9 2
        clear HG OS OF CA KA qA pA hsA F9 O9 O9' G9 C9 K9 q9 p9 D8 q8 p8 C8 K8 a0 a1 a2 e9
        go_wp2
        refine bodyPost_ret (v := ceV ⟨y.a, y.c, some ⟨g9, 0, none⟩, vc2⟩ ⟨o.ve, o.ol, o.sl ++ [(⟨1, 1, 0, 0, 0, 0⟩ : Ct)]⟩) (by simp [results, Try.results30, go_sem, b0, b1, b2, hQP, hQP.symm]) rfl ?_
        exact ⟨⟨⟨y.a, y.c, some ⟨g9, 0, none⟩, vc2⟩, ⟨o.ve, o.ol, o.sl ++ [(⟨1, 1, 0, 0, 0, 0⟩ : Ct)]⟩, rfl, HDF.out.set3 HP8.out _ _ _⟩, (((HC8.out.set w.heap.size 0 _ hPc hW0).set w.heap.size 1 _ hPc hW0).set w.heap.size 2 _ hPc hW0), (((HK8.out.set w.heap.size 0 _ (Nat.le_refl _)).set w.heap.size 1 _ (Nat.le_refl _)).set w.heap.size 2 _ (Nat.le_refl _))⟩
      have d1 : decide (s = 1) = false := decide_eq_false h1
      by_cases h2 : s = 2
      · subst h2
        have hPQ : w.heap.size ≠ Q := fun h => hQP h.symm
        have HN2 : Hid (o.sl.length ≤ 601) := by have := HN.out; show _ ≤ _; omega
        clear HN
        go_wp2
        go_loopw [45] (fun _ wr => ∃ (y : Pl) (o : Ctr), Is W0 a n cap c wr ∧ Kb c w wr ∧ wr.heap[w.heap.size]? = some (.cells #[.int .i64 0, .slice none 0 0, .slice none 0 0] 27) ∧ wr.heap[Q]? = some (ceB y o 27) ∧ Hid (Drw w.heap.size wr y o) ∧ Hid (o.sl.length ≤ 601)) (fun _ wr => 602 - lenQ wr Q)
        case atStart => exact ⟨y, o, C8, K8, p8, q8, D8, HN2⟩
        case round =>
          clear C8 K8 p8 q8 D8 HN2
          obtain ⟨y, o, CR, KR, pR, qR, HD, HN⟩ := hrel
          have aR : wr.cell? ⟨Q, 2, none⟩ = some (.slice y.b o.sl.length y.d) := cell_at qR 2
          have hlq : lenQ wr Q = o.sl.length := by unfold lenQ; rw [aR]
          go_wp2
          have CD : Is W0 a n cap c (World.drew wr) := CR.drewN 1
          go_region_held3 (fun w' => w'.cell? ⟨Q, 2, none⟩ = some (.slice y.b o.sl.length y.d)) (go_keep) ((go_at_call 32; (with_reducible refine (below_any CD 2).mono ?_); rintro e w8 ⟨⟨x, rfl, hx0, hx1⟩, C8, M8⟩; have a8 : w8.cell? ⟨Q, 2, none⟩ = some (.slice y.b o.sl.length y.d) := (M8.cell (p := ⟨Q, 2, none⟩) hQc).trans aR))
          have hx2 := hx1 (by omega)
          have K8 := KR.trans (Kb.moved ⟨M8.size, M8.block⟩ : Kb c wr w8)
          have p8 := (M8.block _ hPc).trans pR
          have q8 := (M8.block _ hQc).trans qR
          have D8 : Drw w.heap.size w8 y o := HD.out.kb (Kb.moved ⟨M8.size, M8.block⟩ : Kb c wr w8) hcw
          have w1 : wrap64 (600 + x) = 600 + x := by unfold wrap64; omega
          have w2 : IntKind.i64.wrap (600 + x) = 600 + x := by rw [IntKind.wrap_i64]; omega
          clear CR KR pR qR HD M8 hx0 hx1 aR CD
          by_cases hlt : (o.sl.length : Int) < 600 + x
          · have dlt : decide ((o.sl.length : Int) < 600 + x) = true := decide_eq_true hlt
            have hdl := HN.out
            obtain ⟨d, hd⟩ : ∃ d : Int, 1 + (o.sl.length : Int) = d := ⟨_, rfl⟩
            have w3 : wrap64 (1 + (o.sl.length : Int)) = d := by clear w1 w2 hlt dlt; rw [hd]; unfold wrap64; omega
            have w4 : IntKind.i64.wrap (1 + (o.sl.length : Int)) = d := by clear w1 w2 w3 hlt dlt; rw [hd, IntKind.wrap_i64]; omega
            have hdb : 1 ≤ d ∧ d ≤ 700 := by clear w1 w2 w3 w4 hlt dlt; omega
            clear hd
            have a0 : w8.cell? ⟨Q, 0, none⟩ = some (.int .i64 o.ve) := cell_at q8 0
            have a1 : w8.cell? ⟨Q, 1, none⟩ = some (.slice y.a o.ol.length y.c) := cell_at q8 1
            have a2 : w8.cell? ⟨Q, 2, none⟩ = some (.slice y.b o.sl.length y.d) := cell_at q8 2
            have HFA : Hid (∃ g, y.a = some ⟨g, 0, none⟩) := D8.fa
            have HWF : Hid (Wfs o.sl) := D8.wf
            have HNL : Hid (o.ol.length ≤ 200000) := D8.nl
            have OS := own_below D8.cp.seen (new_below w8 (.cells #[.int .i64 9, .int .i64 d, .int .i64 0, .int .i64 0, .int .i64 0, .int .i64 0] 37)) (Nat.le_refl _)
            have OF := own_below D8.cp.off (new_below w8 (.cells #[.int .i64 9, .int .i64 d, .int .i64 0, .int .i64 0, .int .i64 0, .int .i64 0] 37)) (Nat.le_refl _)
            have CA := C8.alloc (.cells #[.int .i64 9, .int .i64 d, .int .i64 0, .int .i64 0, .int .i64 0, .int .i64 0] 37)
            have KA := K8.alloc (.cells #[.int .i64 9, .int .i64 d, .int .i64 0, .int .i64 0, .int .i64 0, .int .i64 0] 37)
            have qA := heap_old q8 (.cells #[.int .i64 9, .int .i64 d, .int .i64 0, .int .i64 0, .int .i64 0, .int .i64 0] 37)
            have pA := heap_old p8 (.cells #[.int .i64 9, .int .i64 d, .int .i64 0, .int .i64 0, .int .i64 0, .int .i64 0] 37)
            have hsA : w.heap.size ≤ (w8.alloc (.cells #[.int .i64 9, .int .i64 d, .int .i64 0, .int .i64 0, .int .i64 0, .int .i64 0] 37)).heap.size := KA.size
            have HG : Hid (∀ j u, (cc1 (⟨9, d, 0, 0, 0, 0⟩ : Ct))[j]? = some u → (w8.alloc (.cells #[.int .i64 9, .int .i64 d, .int .i64 0, .int .i64 0, .int .i64 0, .int .i64 0] 37)).cell? (Addr.add ⟨w8.heap.size, 0, none⟩ j) = some u) := six_at (p := (⟨9, d, 0, 0, 0, 0⟩ : Ct))
            go_wp2_with (at_builtin; refine wpList_append_own_at _ rfl _ _ 25 rfl w.heap.size 37 i0 (lgV ⟨0, 0, 0, 0, 0, 0⟩) 6 48 Try.underlying25 hi hy0 hy1 hy2 rfl (by decide) _ _ _ rfl OS ⟨w8.heap.size, 0, none⟩ 1 1 (cc1 (⟨9, d, 0, 0, 0, 0⟩ : Ct)) rfl rfl ?c1 ?c2 ?c3 ?c4 ?c5 ?_)
            case c1 => exact HG.out
            case c2 => exact cc1_one _
            case c3 => have := HN.out; unfold maxLen; omega
            case c4 => have := HN.out; omega
            case c5 => exact hsA
            intro v' w9 O9 G9 _ _
            have C9 : Is W0 a n cap c w9 := CA.grown G9 (fun h => by have := (OS.lt _ h).1; omega) (fun k h => by have := (OS.lt _ h).1; omega)
            have K9 : Kb c w w9 := KA.grown G9 (fun k h => (OS.lt _ h).1)
            have q9 : w9.heap[Q]? = _ := (G9.block Q (lt_of qA) (Pk.own_ne OS qA (by decide))).trans qA
            have p9 : w9.heap[w.heap.size]? = _ := (G9.block _ (lt_of pA) (Pk.own_ne OS pA (by decide))).trans pA
            have F9 := own_grown OF G9 OS (by decide)
            rw [ccells_snoc] at O9
            obtain ⟨va, vc2, rfl, -⟩ := own_form O9
            have e9 : o.sl.length + 1 = (o.sl ++ [(⟨9, d, 0, 0, 0, 0⟩ : Ct)]).length := by simp
            have O9' := O9
            rw [e9] at O9'
            obtain ⟨g9, rfl⟩ := own_some O9' (by simp)
            have HDF : Hid (Drw w.heap.size (w9.setCell ⟨Q, 2, none⟩ (.slice (some ⟨g9, 0, none⟩) (o.sl.length + 1) vc2)) ⟨y.a, y.c, some ⟨g9, 0, none⟩, vc2⟩ ⟨o.ve, o.ol, o.sl ++ [(⟨9, d, 0, 0, 0, 0⟩ : Ct)]⟩) := by
              refine ⟨⟨own_typed F9 q9 (by decide), ?_⟩, HFA.out, ⟨_, rfl⟩, wfs_snoc HWF.out ⟨wfS (by dsimp only; omega), wfS (by dsimp only; omega), wfS (by dsimp only; omega), wfS (by dsimp only; omega), wfS (by dsimp only; omega), wfS (by dsimp only; omega)⟩, HNL.out, ?_⟩
              · exact own_typed O9' q9 (by decide)
              · have := HN.out; simp; omega
            have HP8 : Hid ((w9.setCell ⟨Q, 2, none⟩ (.slice (some ⟨g9, 0, none⟩) (o.sl.length + 1) vc2)).heap[w.heap.size]? = some (.cells #[.int .i64 0, .slice none 0 0, .slice none 0 0] 27)) := h_other (i := 2) p9 hPQ _
            have HC8 : Hid (Is W0 a n cap c (w9.setCell ⟨Q, 2, none⟩ (.slice (some ⟨g9, 0, none⟩) (o.sl.length + 1) vc2))) := C9.set Q 2 _ hQc hQW
            have HK8 : Hid (Kb c w (w9.setCell ⟨Q, 2, none⟩ (.slice (some ⟨g9, 0, none⟩) (o.sl.length + 1) vc2))) := K9.set Q 2 _ hQw
            have cc0 : w9.cell? ⟨Q, 0, none⟩ = some (.int .i64 o.ve) := cell_at q9 0
            have cc1 : w9.cell? ⟨Q, 1, none⟩ = some (.slice y.a o.ol.length y.c) := cell_at q9 1
            have cc2 : w9.cell? ⟨Q, 2, none⟩ = some (.slice y.b o.sl.length y.d) := cell_at q9 2
            have g0 : w9.frozen? ⟨Q, 0, none⟩ = false := frozen_at q9 0
            have g1 : w9.frozen? ⟨Q, 1, none⟩ = false := frozen_at q9 1
            have g2 : w9.frozen? ⟨Q, 2, none⟩ = false := frozen_at q9 2
            have HQ8 : Hid ((w9.setCell ⟨Q, 2, none⟩ (.slice (some ⟨g9, 0, none⟩) (o.sl.length + 1) vc2)).heap[Q]? = some (ceB ⟨y.a, y.c, some ⟨g9, 0, none⟩, vc2⟩ ⟨o.ve, o.ol, o.sl ++ [(⟨9, d, 0, 0, 0, 0⟩ : Ct)]⟩ 27)) := by
              show _ = _
              have h5 := h_set (i := 2) q9 (.slice (some ⟨g9, 0, none⟩) (o.sl.length + 1) vc2)
              rw [h5]
              simp [ceB]
            have HN8 : Hid ((o.sl ++ [(⟨9, d, 0, 0, 0, 0⟩ : Ct)]).length ≤ 601) := by
              show _ ≤ _
              rw [← e9]
              omega
            have hlq2 : lenQ (w9.setCell ⟨Q, 2, none⟩ (.slice (some ⟨g9, 0, none⟩) (o.sl.length + 1) vc2)) Q = o.sl.length + 1 := by
              unfold lenQ
              rw [show (w9.setCell ⟨Q, 2, none⟩ (.slice (some ⟨g9, 0, none⟩) (o.sl.length + 1) vc2)).cell? ⟨Q, 2, none⟩ = some (.slice (some ⟨g9, 0, none⟩) (o.sl.length + 1) vc2) from cell_at (h_set (i := 2) q9 _) 2]
            clear HG OS OF CA KA qA pA hsA F9 O9 O9' G9 C9 K9 q9 p9 D8 q8 p8 C8 K8 a0 a1 a2 e9
            go_wp2
            go_roundw
            case rel => exact ⟨⟨y.a, y.c, some ⟨g9, 0, none⟩, vc2⟩, ⟨o.ve, o.ol, o.sl ++ [(⟨9, d, 0, 0, 0, 0⟩ : Ct)]⟩, HC8.out, HK8.out, HP8.out, HQ8.out, HDF, HN8⟩
            case measure => rw [hlq, hlq2]; omega
          · have dlt : decide ((o.sl.length : Int) < 600 + x) = false := decide_eq_false hlt
            have a0 : w8.cell? ⟨Q, 0, none⟩ = some (.int .i64 o.ve) := cell_at q8 0
            have a1 : w8.cell? ⟨Q, 1, none⟩ = some (.slice y.a o.ol.length y.c) := cell_at q8 1
            have a2 : w8.cell? ⟨Q, 2, none⟩ = some (.slice y.b o.sl.length y.d) := cell_at q8 2
            have b0 : w8.cell? ⟨w.heap.size, 0, none⟩ = some (.int .i64 0) := cell_at p8 0
            have b1 : w8.cell? ⟨w.heap.size, 1, none⟩ = some (.slice none 0 0) := cell_at p8 1
            have b2 : w8.cell? ⟨w.heap.size, 2, none⟩ = some (.slice none 0 0) := cell_at p8 2
            have f0 : w8.frozen? ⟨w.heap.size, 0, none⟩ = false := frozen_at p8 0
            have f1 : w8.frozen? ⟨w.heap.size, 1, none⟩ = false := frozen_at p8 1
            have f2 : w8.frozen? ⟨w.heap.size, 2, none⟩ = false := frozen_at p8 2
            have HDF : Hid (Drw w.heap.size w8 y o) := D8
            have HP8 : Hid (w8.heap[w.heap.size]? = some (.cells #[.int .i64 0, .slice none 0 0, .slice none 0 0] 27)) := p8
            have HC8 : Hid (Is W0 a n cap c w8) := C8
            have HK8 : Hid (Kb c w w8) := K8
            clear D8 q8 p8 C8 K8
            go_wp2
            refine bodyPost_ret (v := ceV y o) (by simp [results, Try.results30, go_sem, b0, b1, b2, hQP, hQP.symm]) rfl ?_
            exact ⟨⟨y, o, rfl, HDF.out.set3 HP8.out _ _ _⟩, (((HC8.out.set w.heap.size 0 _ hPc hW0).set w.heap.size 1 _ hPc hW0).set w.heap.size 2 _ hPc hW0), (((HK8.out.set w.heap.size 0 _ (Nat.le_refl _)).set w.heap.size 1 _ (Nat.le_refl _)).set w.heap.size 2 _ (Nat.le_refl _))⟩
      have d2 : decide (s = 2) = false := decide_eq_false h2
      have hPQ : w.heap.size ≠ Q := fun h => hQP h.symm
      have a0 : w8.cell? ⟨Q, 0, none⟩ = some (.int .i64 o.ve) := cell_at q8 0
      have a1 : w8.cell? ⟨Q, 1, none⟩ = some (.slice y.a o.ol.length y.c) := cell_at q8 1
      have a2 : w8.cell? ⟨Q, 2, none⟩ = some (.slice y.b o.sl.length y.d) := cell_at q8 2
      have b0 : w8.cell? ⟨w.heap.size, 0, none⟩ = some (.int .i64 0) := cell_at p8 0
      have b1 : w8.cell? ⟨w.heap.size, 1, none⟩ = some (.slice none 0 0) := cell_at p8 1
      have b2 : w8.cell? ⟨w.heap.size, 2, none⟩ = some (.slice none 0 0) := cell_at p8 2
      have f0 : w8.frozen? ⟨w.heap.size, 0, none⟩ = false := frozen_at p8 0
      have f1 : w8.frozen? ⟨w.heap.size, 1, none⟩ = false := frozen_at p8 1
      have f2 : w8.frozen? ⟨w.heap.size, 2, none⟩ = false := frozen_at p8 2
      have HDF : Hid (Drw w.heap.size w8 y o) := D8
      have HP8 : Hid (w8.heap[w.heap.size]? = some (.cells #[.int .i64 0, .slice none 0 0, .slice none 0 0] 27)) := p8
      have HC8 : Hid (Is W0 a n cap c w8) := C8
      have HK8 : Hid (Kb c w w8) := K8
      clear D8 q8 p8 C8 K8
      go_wp2
      refine bodyPost_ret (v := ceV y o) (by simp [results, Try.results30, go_sem, b0, b1, b2, hQP, hQP.symm]) rfl ?_
      exact ⟨⟨y, o, rfl, HDF.out.set3 HP8.out _ _ _⟩, (((HC8.out.set w.heap.size 0 _ hPc hW0).set w.heap.size 1 _ hPc hW0).set w.heap.size 2 _ hPc hW0), (((HK8.out.set w.heap.size 0 _ (Nat.le_refl _)).set w.heap.size 1 _ (Nat.le_refl _)).set w.heap.size 2 _ (Nat.le_refl _))⟩
end Hn
end Go.Proofs.Ytbmfhdlbbaabgaa
