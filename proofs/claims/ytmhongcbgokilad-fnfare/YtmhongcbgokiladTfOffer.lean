/- The program's offer of a way. -/
import Derived.Test.YtmhongcbgokiladTfMap
import Derived.Deep.Cut
namespace Go.Proofs.Ytmhongcbgokilad
namespace Tf
open Go.ChangeShapes Go.WideShapes Go.ChangeAt Go.RowKit
open Pk (new_below join_below cell_at heap_new frozen_at lt_of kept heap_old Drawn info_of)
set_option linter.unusedSimpArgs false
set_option linter.unusedVariables false
variable {bs : Nat}

/-- What an offer makes of the open ways. -/
def offF (G F : Int → Option Wy) (o : Wy) : Int → Option Wy :=
  if (G (endW o)).isSome = true then F else match F (endW o) with
    | none => setF F (endW o) (some o)
    | some b => if ahead o b = true then setF F (endW o) (some o) else F

theorem off_gone {G F : Int → Option Wy} {o : Wy} (h : (G (endW o)).isSome = true) : offF G F o = F := by unfold offF; rw [if_pos h]
theorem off_none {G F : Int → Option Wy} {o : Wy} (h : (G (endW o)).isSome = false) (h2 : F (endW o) = none) : offF G F o = setF F (endW o) (some o) := by unfold offF; rw [if_neg (by rw [h]; simp), h2]
theorem off_yes {G F : Int → Option Wy} {o b : Wy} (h : (G (endW o)).isSome = false) (h2 : F (endW o) = some b) (h3 : ahead o b = true) : offF G F o = setF F (endW o) (some o) := by unfold offF; rw [if_neg (by rw [h]; simp), h2]; simp [h3]
theorem off_no {G F : Int → Option Wy} {o b : Wy} (h : (G (endW o)).isSome = false) (h2 : F (endW o) = some b) (h3 : ahead o b = false) : offF G F o = F := by unfold offF; rw [if_neg (by rw [h]; simp), h2]; simp [h3]

theorem wp_look_val {o : Oper} {a : Act} {K : Act → World → Prop} {Q : Exit → Act → World → Prop} {w : World} (m x : Operand) (ho : o.op = .lookup 139 m x true) (b n : Nat) (D : DataW Value) (hm : a.eval m = .map (some b)) (h1 : w.ownsMap Try.prog 3 hld b n D) (k : Int) (hw : (kk k).wf = true) (hx : a.eval x = .int .i64 k) (v : Value) (hh : Maps.has D (kk k) = true) (hat : ∀ z, D.atKey (kk k) z = .held v)
    (h : K (a.put o.dst (.tuple #[v, .bool true])) w) : o.wp Try.prog a w K Q := by
  obtain ⟨v', ps, hrun, hv⟩ := h1.look_ok klaw Try.underlying139 (zeroW w) (zd := .held (.agg #[.int .i64 0, .slice none 0 0])) (zp := []) rfl (kk_of hw)
  rw [hat] at hv
  rw [hh] at hrun
  obtain rfl : v' = v := by
    simp only [hld, Option.some.injEq, Prod.mk.injEq, DataW.held.injEq] at hv
    exact hv.1
  unfold Oper.wp
  simp [execOp, ho, hm, hx, hrun, Result.andThen]
  exact h

theorem grown_below {w w1 w2 : World} {b : Nat} (L : Below w.heap.size w w1) (hg : w1.grownBy w2 (some b)) : w.grownBy w2 (some b) :=
  ⟨hg.os.trans L.os, hg.tape.trans L.tape, hg.output.trans L.output, Nat.le_trans L.size hg.size, fun i hi hne => (hg.block i (Nat.lt_of_lt_of_le hi L.size) hne).trans (L.block i hi)⟩

theorem below_grown {w w1 : World} (L : Below w.heap.size w w1) (row : Option Nat) : w.grownBy w1 row := ⟨L.os, L.tape, L.output, L.size, fun i hi _ => L.block i hi⟩

set_option maxHeartbeats 4000000 in
set_option maxRecDepth 100000 in
theorem offer_val (ea : Option Addr) (le ce bo bg fn gn : Nat) (F G : Int → Option Wy) (v : Value) (o : Wy) (w : World) (I : Opn bs w bo fn F) (J : Gn w bg gn G) (hne : bo ≠ bg) (V : Wv bs w v o) (hy : 1 ≤ endW o ∧ endW o ≤ 9999)
    (hl : o.s.length ≤ 1048576) (hF : ∀ k p, F k = some p → p.s.length ≤ 1048576) (hfn : fn < 1000000000) :
    Calls Try.prog 111 #[.agg #[.slice ea le ce, .map (some bo), .map (some bg)], v] w fun e w' => e = .returned (.tuple #[]) ∧ Opn bs w' bo (fn + 1) (offF G F o) ∧ Gn w' bg gn G ∧ w.grownBy w' (some bo) := by
  obtain ⟨g, cap, rfl, hg, hnp, hcell⟩ := V
  have HV : Hid (∀ w', Below w.heap.size w w' → Wv bs w' (.agg #[.int .i64 o.c, .slice (some ⟨g, 0, none⟩) o.s.length cap]) o) := fun w' L => Wv.on ⟨g, cap, rfl, hg, hnp, hcell⟩ L
  have N1 := new_below w (.cells #[.slice ea le ce, .map (some bo), .map (some bg)] 141)
  have m1 := heap_new w (.cells #[.slice ea le ce, .map (some bo), .map (some bg)] 141)
  have e1 : (w.alloc (.cells #[.slice ea le ce, .map (some bo), .map (some bg)] 141)).heap.size = w.heap.size + 1 := Array.size_push ..
  generalize hW1 : w.alloc (.cells #[.slice ea le ce, .map (some bo), .map (some bg)] 141) = W1 at *
  have N2 := new_below W1 (.cells #[.int .i64 o.c, .slice (some ⟨g, 0, none⟩) o.s.length cap] 103)
  have m2 := heap_new W1 (.cells #[.int .i64 o.c, .slice (some ⟨g, 0, none⟩) o.s.length cap] 103)
  generalize hW2 : W1.alloc (.cells #[.int .i64 o.c, .slice (some ⟨g, 0, none⟩) o.s.length cap] 103) = W at *
  have m1' := kept N2 (lt_of m1) m1
  rw [e1] at m2
  have N := join_below N1 N2
  rw [← hW1] at hW2
  have HEnd : Hid (∀ w', Below W.heap.size W w' → _) := fun w' L => end_val _ o w' hl (HV.out w' (N.trans (L.mono N.size)))
  have HS : Hid (∀ w', Below W.heap.size W w' → w'.cell? ⟨w.heap.size, 1, none⟩ = some (.map (some bo)) ∧ w'.cell? ⟨w.heap.size, 2, none⟩ = some (.map (some bg)) ∧ w'.cell? ⟨w.heap.size + 1, 0, none⟩ = some (.int .i64 o.c) ∧ w'.cell? ⟨w.heap.size + 1, 1, none⟩ = some (.slice (some ⟨g, 0, none⟩) o.s.length cap)) := fun w' L =>
    ⟨cell_at (kept L (lt_of m1') m1') 1, cell_at (kept L (lt_of m1') m1') 2, cell_at (kept L (lt_of m2) m2) 0, cell_at (kept L (lt_of m2) m2) 1⟩
  have HS0 := HS.out W (Below.refl _ _)
  have HBL : Hid (w.heap.size + 1 < W.heap.size) := lt_of m2
  have LD : Below W.heap.size W W.drew := (Below.refl _ _).drew
  have OW := I.on N
  have JW := J.on N
  have hyw := kk_wf hy
  clear m1 m2 m1' N1 N2 e1 hcell hW1 hg hnp
  have HMono : Hid (∀ w' F', Opn bs w' bo fn F' → Opn bs w' bo (fn + 1) F') := fun w' F' h => by
    obtain ⟨D, h1, h2⟩ := h
    exact ⟨D, h1.mono (Nat.le_succ _), h2⟩
  obtain ⟨n, hn⟩ : ∃ n, o.s.length = n := ⟨_, rfl⟩
  obtain ⟨c, hc⟩ : ∃ c, o.c = c := ⟨_, rfl⟩
  obtain ⟨y, hyy⟩ : ∃ y, endW o = y := ⟨_, rfl⟩
  obtain ⟨gB, hgB⟩ : ∃ gB, (G y).isSome = gB := ⟨_, rfl⟩
  rw [hn, hc] at HS HS0 HV HEnd hW2
  rw [hn, hc]
  rw [hyy] at HEnd hyw hy
  have HY : Hid (endW o = y) := hyy
  have HO : Hid (o.s.length = n ∧ o.c = c) := ⟨hn, hc⟩
  have HG1 : Hid (gB = true → offF G F o = F) := fun h => off_gone (by rw [hyy, hgB]; exact h)
  have HG2 : Hid (gB = false → F y = none → offF G F o = setF F y (some o)) := fun h h2 => by rw [← hyy]; exact off_none (by rw [hyy, hgB]; exact h) (by rw [hyy]; exact h2)
  have HG3 : Hid (∀ b, gB = false → F y = some b → ahead o b = true → offF G F o = setF F y (some o)) := fun b h h2 h3 => by rw [← hyy]; exact off_yes (by rw [hyy, hgB]; exact h) (by rw [hyy]; exact h2) h3
  have HG4 : Hid (∀ b, gB = false → F y = some b → ahead o b = false → offF G F o = F) := fun b h h2 h3 => off_no (by rw [hyy, hgB]; exact h) (by rw [hyy]; exact h2) h3
  clear hn hc hyy
  obtain ⟨s1, s2, s3, s4⟩ := HS0
  go_enter Try.func111, Try.ntmps111
  go_wp2
  clear hW2
  refine wp_region_held_drew (S := (fun w' => w'.cell? ⟨w.heap.size, 1, none⟩ = some (.map (some bo)) ∧ w'.cell? ⟨w.heap.size, 2, none⟩ = some (.map (some bg)) ∧ w'.cell? ⟨w.heap.size + 1, 0, none⟩ = some (.int .i64 c) ∧ w'.cell? ⟨w.heap.size + 1, 1, none⟩ = some (.slice (some ⟨g, 0, none⟩) n cap))) (by kernel_rfl) ?_ (fun hHeld => ?_)
  · exact HS.out _ LD
  refine wpAnyH_take (i := 0) (v := .pointer (some ⟨w.heap.size, 2, none⟩)) rfl (by kernel_rfl) (by kernel_rfl) (by kernel_rfl) (fun _ _ _ h => h) (Or.inl ⟨by kernel_rfl, fun w hSw => by first | (go_simp; done) | (dsimp only at hSw; obtain ⟨hS0, hS1, hS2, hS3⟩ := hSw; go_simp; done) | rfl⟩) (by assumption) ?_
  simp only [Act.put, List.getElem_toArray, List.getElem_cons_succ, List.getElem_cons_zero, List.setIfInBounds_toArray, List.set_cons_succ, List.set_cons_zero]
  refine wpAnyH_take (i := 1) (v := .map (some bg)) rfl (by kernel_rfl) (by kernel_rfl) (by kernel_rfl) (fun _ _ _ h => h) (Or.inl ⟨by kernel_rfl, fun w hSw => by first | (go_simp; done) | (dsimp only at hSw; obtain ⟨hS0, hS1, hS2, hS3⟩ := hSw; go_simp; done) | rfl⟩) (by assumption) ?_
  simp only [Act.put, List.getElem_toArray, List.getElem_cons_succ, List.getElem_cons_zero, List.setIfInBounds_toArray, List.set_cons_succ, List.set_cons_zero]
  refine wpAnyH_take (i := 2) (v := .agg #[.int .i64 c, .slice (some ⟨g, 0, none⟩) n cap]) rfl (by kernel_rfl) (by kernel_rfl) (by kernel_rfl) (fun _ _ _ h => h) (Or.inl ⟨by kernel_rfl, fun w hSw => by first | (go_simp; done) | (dsimp only at hSw; obtain ⟨hS0, hS1, hS2, hS3⟩ := hSw; go_simp; done) | rfl⟩) (by assumption) ?_
  simp only [Act.put, List.getElem_toArray, List.getElem_cons_succ, List.getElem_cons_zero, List.setIfInBounds_toArray, List.set_cons_succ, List.set_cons_zero]
  refine wpAnyH_ready (rs := [3]) (by kernel_rfl) (by simp) ?_
  refine AllReadyH.cons rfl (fun K hK => ?_) AllReadyH.nil
  go_simp
  go_wp2_with (go_at_call 106; refine (HEnd.out _ ?_).mono ?_; (first | exact LD | exact LDZ); rintro e w1 ⟨rfl, L1⟩; have K1 : Below W.heap.size W w1 := (by first | exact LD.trans (L1.mono LD.size) | exact LDZ.trans (L1.mono LDZ.size)))
  refine hK.out _ _ ?_ (fun hHeld2 => ?_)
  · first | exact hHeld | exact HS.out _ K1
  clear hK K hHeld
  have hHeld := hHeld2
  clear hHeld2
  refine wpAnyH_ready (rs := [4]) (by kernel_rfl) (by simp) ?_
  refine AllReadyH.cons rfl (fun K hK => ?_) AllReadyH.nil
  rw [if_pos (by kernel_rfl)]
  refine wp_look_gone _ _ rfl bg gn G rfl (JW.on K1) y hyw rfl ?_
  intro u
  try simp only [Act.put, List.getElem_toArray, List.getElem_cons_succ, List.getElem_cons_zero, List.setIfInBounds_toArray, List.set_cons_succ, List.set_cons_zero]
  refine hK.out _ _ ?_ (fun hHeld2 => ?_)
  · first | exact hHeld | exact HS.out _ K1
  clear hK K hHeld
  have hHeld := hHeld2
  clear hHeld2
  refine wpAnyH_take (i := 5) (v := .tuple #[u, .bool gB]) rfl (by kernel_rfl) (by kernel_rfl) (by kernel_rfl) (fun _ _ _ h => h) (Or.inl ⟨by kernel_rfl, fun w hSw => by first | (go_simp; done) | (dsimp only at hSw; obtain ⟨hS0, hS1, hS2, hS3⟩ := hSw; go_simp; done) | rfl⟩) (by assumption) ?_
  simp only [Act.put, List.getElem_toArray, List.getElem_cons_succ, List.getElem_cons_zero, List.setIfInBounds_toArray, List.set_cons_succ, List.set_cons_zero]
  refine wpAnyH_take (i := 6) (v := u) rfl (by kernel_rfl) (by kernel_rfl) (by kernel_rfl) (fun _ _ _ h => h) (Or.inl ⟨by kernel_rfl, fun w hSw => by first | (go_simp; done) | (dsimp only at hSw; obtain ⟨hS0, hS1, hS2, hS3⟩ := hSw; go_simp; done) | rfl⟩) (by assumption) ?_
  simp only [Act.put, List.getElem_toArray, List.getElem_cons_succ, List.getElem_cons_zero, List.setIfInBounds_toArray, List.set_cons_succ, List.set_cons_zero]
  refine wpAnyH_take (i := 7) (v := .bool gB) rfl (by kernel_rfl) (by kernel_rfl) (by kernel_rfl) (fun _ _ _ h => h) (Or.inl ⟨by kernel_rfl, fun w hSw => by first | (go_simp; done) | (dsimp only at hSw; obtain ⟨hS0, hS1, hS2, hS3⟩ := hSw; go_simp; done) | rfl⟩) (by assumption) ?_
  simp only [Act.put, List.getElem_toArray, List.getElem_cons_succ, List.getElem_cons_zero, List.setIfInBounds_toArray, List.set_cons_succ, List.set_cons_zero]
  refine wpAnyH_ready (rs := [8]) (by kernel_rfl) (by simp) ?_
  refine AllReadyH.cons rfl (fun K hK => ?_) AllReadyH.nil
  go_simp
  refine hK.out _ _ ?_ (fun hHeld2 => ?_)
  · first | exact hHeld | exact HS.out _ K1
  clear hK K hHeld
  have hHeld := hHeld2
  clear hHeld2
  refine wpAnyH_ready (rs := [9]) (by kernel_rfl) (by simp) ?_
  refine AllReadyH.cons rfl (fun K hK => ?_) AllReadyH.nil
  go_simp
  refine hK.out _ _ ?_ (fun hHeld2 => ?_)
  · first | exact hHeld | exact HS.out _ K1
  clear hK K hHeld
  have hHeld := hHeld2
  clear hHeld2
  refine wpAnyH_done (by kernel_rfl) ?_ _
  clear hHeld s1 s2 s3 s4
  cases gB
  case true =>
    have HE : Hid (_) := HG1.out rfl
    go_wp2
    refine bodyPost_ret (results_none rfl _ _ _) rfl ?_
    exact ⟨rfl, by rw [HE.out]; exact HMono.out _ _ (OW.on K1), JW.on K1, below_grown (N.trans (K1.mono N.size)) _⟩
  case false =>
    have LD3 : Below W.heap.size W w1.drew := K1.drew
    have LDZ3 : Below W.heap.size W (w1.drew.alloc (.cells #[.int .i64 0, .slice none 0 0] 103)) := K1.drew.alloc K1.size _
    have HSG : Hid (∀ w' w'', Below W.heap.size W w' → w'.grownBy w'' (some bo) → w''.cell? ⟨w.heap.size, 1, none⟩ = some (.map (some bo)) ∧ w''.cell? ⟨w.heap.size, 2, none⟩ = some (.map (some bg)) ∧ w''.cell? ⟨w.heap.size + 1, 0, none⟩ = some (.int .i64 c) ∧ w''.cell? ⟨w.heap.size + 1, 1, none⟩ = some (.slice (some ⟨g, 0, none⟩) n cap)) := by
      intro w' w'' L hg
      have hb0 : w.heap.size ≠ bo := by have := I.lt; omega
      have hb1 : w.heap.size + 1 ≠ bo := by have := I.lt; omega
      obtain ⟨t1, t2, t3, t4⟩ := HS.out w' L
      have l0 : w.heap.size < w'.heap.size := by have := HBL.out; have := L.size; omega
      have l1 : w.heap.size + 1 < w'.heap.size := by have := HBL.out; have := L.size; omega
      exact ⟨(World.cell?_of_block (a := ⟨w.heap.size, 1, none⟩) (hg.block _ l0 (by simpa using hb0))).trans t1, (World.cell?_of_block (a := ⟨w.heap.size, 2, none⟩) (hg.block _ l0 (by simpa using hb0))).trans t2, (World.cell?_of_block (a := ⟨w.heap.size + 1, 0, none⟩) (hg.block _ l1 (by simpa using hb1))).trans t3, (World.cell?_of_block (a := ⟨w.heap.size + 1, 1, none⟩) (hg.block _ l1 (by simpa using hb1))).trans t4⟩
    obtain ⟨s1, s2, s3, s4⟩ := HS.out _ K1
    cases hFy : F y with
    | none =>
      have HE : Hid (_) := HG2.out rfl hFy
      clear HG1 HG2 HG3 HG4
      go_wp2
      go_cut [6, 7] from 8 (fun s6 s7 wc => ∃ Z, s6 = .pointer (some ⟨Z, 0, none⟩) ∧ s7 = .bool false ∧ Below W.heap.size W wc ∧ wc.cell? ⟨Z, 0, none⟩ = some (.int .i64 0) ∧ wc.cell? ⟨Z, 1, none⟩ = some (.slice none 0 0))
      case first =>
        refine wp_region_held_drew (S := (fun w' => w'.cell? ⟨w.heap.size, 1, none⟩ = some (.map (some bo)) ∧ w'.cell? ⟨w.heap.size, 2, none⟩ = some (.map (some bg)) ∧ w'.cell? ⟨w.heap.size + 1, 0, none⟩ = some (.int .i64 c) ∧ w'.cell? ⟨w.heap.size + 1, 1, none⟩ = some (.slice (some ⟨g, 0, none⟩) n cap))) (by kernel_rfl) ?_ (fun hHeld => ?_)
        · exact HS.out _ LD3
        refine wpAnyH_take (i := 0) (v := .pointer (some ⟨w.heap.size, 1, none⟩)) rfl (by kernel_rfl) (by kernel_rfl) (by kernel_rfl) (fun _ _ _ h => h) (Or.inl ⟨by kernel_rfl, fun w hSw => by first | (go_simp; done) | (dsimp only at hSw; obtain ⟨hS0, hS1, hS2, hS3⟩ := hSw; go_simp; done) | rfl⟩) (by assumption) ?_
        simp only [Act.put, List.getElem_toArray, List.getElem_cons_succ, List.getElem_cons_zero, List.setIfInBounds_toArray, List.set_cons_succ, List.set_cons_zero]
        refine wpAnyH_take (i := 1) (v := .map (some bo)) rfl (by kernel_rfl) (by kernel_rfl) (by kernel_rfl) (fun _ _ _ h => h) (Or.inl ⟨by kernel_rfl, fun w hSw => by first | (go_simp; done) | (dsimp only at hSw; obtain ⟨hS0, hS1, hS2, hS3⟩ := hSw; go_simp; done) | rfl⟩) (by assumption) ?_
        simp only [Act.put, List.getElem_toArray, List.getElem_cons_succ, List.getElem_cons_zero, List.setIfInBounds_toArray, List.set_cons_succ, List.set_cons_zero]
        refine wpAnyH_take (i := 2) (v := .agg #[.int .i64 c, .slice (some ⟨g, 0, none⟩) n cap]) rfl (by kernel_rfl) (by kernel_rfl) (by kernel_rfl) (fun _ _ _ h => h) (Or.inl ⟨by kernel_rfl, fun w hSw => by first | (go_simp; done) | (dsimp only at hSw; obtain ⟨hS0, hS1, hS2, hS3⟩ := hSw; go_simp; done) | rfl⟩) (by assumption) ?_
        simp only [Act.put, List.getElem_toArray, List.getElem_cons_succ, List.getElem_cons_zero, List.setIfInBounds_toArray, List.set_cons_succ, List.set_cons_zero]
        refine wpAnyH_ready (rs := [3, 8]) (by kernel_rfl) (by simp) ?_
        refine AllReadyH.cons rfl (fun K hK => ?_) (AllReadyH.cons rfl (fun K hK => ?_) (AllReadyH.nil))
        · go_simp
          go_wp2_with (go_at_call 106; refine (HEnd.out _ ?_).mono ?_; (first | exact LD3 | exact LDZ3); rintro e w3 ⟨rfl, L3⟩; have K3 : Below W.heap.size W w3 := (by first | exact LD3.trans (L3.mono LD3.size) | exact LDZ3.trans (L3.mono LDZ3.size)); (first | (have mz : w3.heap[w1.heap.size]? = some (Obj.cells #[.int .i64 0, .slice none 0 0] 103) := kept L3 (lt_of (heap_new w1.drew _)) (heap_new w1.drew _); have y0 : w3.cell? ⟨w1.heap.size, 0, none⟩ = some (.int .i64 0) := cell_at mz 0; have y1 : w3.cell? ⟨w1.heap.size, 1, none⟩ = some (.slice none 0 0) := cell_at mz 1; have f0 : w3.frozen? ⟨w1.heap.size, 0, none⟩ = false := frozen_at mz 0; have f1 : w3.frozen? ⟨w1.heap.size, 1, none⟩ = false := frozen_at mz 1) | skip))
          refine hK.out _ _ ?_ (fun hHeld2 => ?_)
          · first | exact hHeld | exact HS.out _ LDZ3 | exact HS.out _ K3 | exact HS.out _ (K3.alloc K3.size _) | exact HS.out _ ((K3.setCell (p := ⟨w1.heap.size, 0, none⟩) K1.size _).setCell (p := ⟨w1.heap.size, 1, none⟩) K1.size _) | exact HS.out _ (((K3.alloc K3.size _).setCell (p := ⟨w3.heap.size, 0, none⟩) K3.size _).setCell (p := ⟨w3.heap.size, 1, none⟩) K3.size _)
          clear hK K hHeld
          have hHeld := hHeld2
          clear hHeld2
          refine wpAnyH_ready (rs := [4, 8]) (by kernel_rfl) (by simp) ?_
          refine AllReadyH.cons rfl (fun K hK => ?_) (AllReadyH.cons rfl (fun K hK => ?_) (AllReadyH.nil))
          · rw [if_pos (by kernel_rfl)]
            refine wp_look_none _ _ rfl bo fn F rfl (by first | exact OW.on K3 | exact OW.on (K3.alloc K3.size _)) y hyw rfl hFy ?_
            try simp only [Act.put, List.getElem_toArray, List.getElem_cons_succ, List.getElem_cons_zero, List.setIfInBounds_toArray, List.set_cons_succ, List.set_cons_zero]
            refine hK.out _ _ ?_ (fun hHeld2 => ?_)
            · first | exact hHeld | exact HS.out _ LDZ3 | exact HS.out _ K3 | exact HS.out _ (K3.alloc K3.size _) | exact HS.out _ ((K3.setCell (p := ⟨w1.heap.size, 0, none⟩) K1.size _).setCell (p := ⟨w1.heap.size, 1, none⟩) K1.size _) | exact HS.out _ (((K3.alloc K3.size _).setCell (p := ⟨w3.heap.size, 0, none⟩) K3.size _).setCell (p := ⟨w3.heap.size, 1, none⟩) K3.size _)
            clear hK K hHeld
            have hHeld := hHeld2
            clear hHeld2
            refine wpAnyH_take (i := 5) (v := .tuple #[.agg #[.int .i64 0, .slice none 0 0], .bool false]) rfl (by kernel_rfl) (by kernel_rfl) (by kernel_rfl) (fun _ _ _ h => h) (Or.inl ⟨by kernel_rfl, fun w hSw => by first | (go_simp; done) | (dsimp only at hSw; obtain ⟨hS0, hS1, hS2, hS3⟩ := hSw; go_simp; done) | rfl⟩) (by assumption) ?_
            simp only [Act.put, List.getElem_toArray, List.getElem_cons_succ, List.getElem_cons_zero, List.setIfInBounds_toArray, List.set_cons_succ, List.set_cons_zero]
            refine wpAnyH_take (i := 6) (v := .agg #[.int .i64 0, .slice none 0 0]) rfl (by kernel_rfl) (by kernel_rfl) (by kernel_rfl) (fun _ _ _ h => h) (Or.inl ⟨by kernel_rfl, fun w hSw => by first | (go_simp; done) | (dsimp only at hSw; obtain ⟨hS0, hS1, hS2, hS3⟩ := hSw; go_simp; done) | rfl⟩) (by assumption) ?_
            simp only [Act.put, List.getElem_toArray, List.getElem_cons_succ, List.getElem_cons_zero, List.setIfInBounds_toArray, List.set_cons_succ, List.set_cons_zero]
            refine wpAnyH_take (i := 7) (v := .bool false) rfl (by kernel_rfl) (by kernel_rfl) (by kernel_rfl) (fun _ _ _ h => h) (Or.inl ⟨by kernel_rfl, fun w hSw => by first | (go_simp; done) | (dsimp only at hSw; obtain ⟨hS0, hS1, hS2, hS3⟩ := hSw; go_simp; done) | rfl⟩) (by assumption) ?_
            simp only [Act.put, List.getElem_toArray, List.getElem_cons_succ, List.getElem_cons_zero, List.setIfInBounds_toArray, List.set_cons_succ, List.set_cons_zero]
            refine wpAnyH_ready (rs := [8]) (by kernel_rfl) (by simp) ?_
            refine AllReadyH.cons rfl (fun K hK => ?_) (AllReadyH.nil)
            go_simp
            refine hK.out _ _ ?_ (fun hHeld2 => ?_)
            · first | exact hHeld | exact HS.out _ LDZ3 | exact HS.out _ K3 | exact HS.out _ (K3.alloc K3.size _) | exact HS.out _ ((K3.setCell (p := ⟨w1.heap.size, 0, none⟩) K1.size _).setCell (p := ⟨w1.heap.size, 1, none⟩) K1.size _) | exact HS.out _ (((K3.alloc K3.size _).setCell (p := ⟨w3.heap.size, 0, none⟩) K3.size _).setCell (p := ⟨w3.heap.size, 1, none⟩) K3.size _)
            clear hK K hHeld
            have hHeld := hHeld2
            clear hHeld2
            refine wpAnyH_ready (rs := [9]) (by kernel_rfl) (by simp) ?_
            refine AllReadyH.cons rfl (fun K hK => ?_) AllReadyH.nil
            go_simp
            refine hK.out _ _ ?_ (fun hHeld2 => ?_)
            · first | exact hHeld | exact HS.out _ LDZ3 | exact HS.out _ K3 | exact HS.out _ (K3.alloc K3.size _) | exact HS.out _ ((K3.setCell (p := ⟨w1.heap.size, 0, none⟩) K1.size _).setCell (p := ⟨w1.heap.size, 1, none⟩) K1.size _) | exact HS.out _ (((K3.alloc K3.size _).setCell (p := ⟨w3.heap.size, 0, none⟩) K3.size _).setCell (p := ⟨w3.heap.size, 1, none⟩) K3.size _)
            clear hK K hHeld
            have hHeld := hHeld2
            clear hHeld2
            refine wpAnyH_ready (rs := [10]) (by kernel_rfl) (by simp) ?_
            refine AllReadyH.cons rfl (fun K hK => ?_) AllReadyH.nil
            go_simp
            refine hK.out _ _ ?_ (fun hHeld2 => ?_)
            · first | exact hHeld | exact HS.out _ LDZ3 | exact HS.out _ K3 | exact HS.out _ (K3.alloc K3.size _) | exact HS.out _ ((K3.setCell (p := ⟨w1.heap.size, 0, none⟩) K1.size _).setCell (p := ⟨w1.heap.size, 1, none⟩) K1.size _) | exact HS.out _ (((K3.alloc K3.size _).setCell (p := ⟨w3.heap.size, 0, none⟩) K3.size _).setCell (p := ⟨w3.heap.size, 1, none⟩) K3.size _)
            clear hK K hHeld
            have hHeld := hHeld2
            clear hHeld2
            refine wpAnyH_done (by kernel_rfl) ?_ _
            clear hHeld
            go_wp2
            go_meet
            case rel => first | exact ⟨w1.heap.size, rfl, rfl, (K3.setCell (p := ⟨w1.heap.size, 0, none⟩) K1.size _).setCell (p := ⟨w1.heap.size, 1, none⟩) K1.size _, by rw [World.cell?_setCell_other _ _ _ _ (by simp)]; exact World.cell?_setCell_same _ _ _ y0, World.cell?_setCell_same _ _ _ (by rw [World.cell?_setCell_other _ _ _ _ (by simp)]; exact y1)⟩ | exact ⟨w3.heap.size, rfl, rfl, K3.alloc K3.size _, cell_at (heap_new _ _) 0, cell_at (heap_new _ _) 1⟩ | exact ⟨w3.heap.size, rfl, rfl, ((K3.alloc K3.size _).setCell (p := ⟨w3.heap.size, 0, none⟩) K3.size _).setCell (p := ⟨w3.heap.size, 1, none⟩) K3.size _, by rw [World.cell?_setCell_other _ _ _ _ (by simp)]; exact World.cell?_setCell_same _ _ _ (cell_at (heap_new _ _) 0), World.cell?_setCell_same _ _ _ (by rw [World.cell?_setCell_other _ _ _ _ (by simp)]; exact cell_at (heap_new _ _) 1)⟩
          · go_simp
            refine hK.out _ _ ?_ (fun hHeld2 => ?_)
            · first | exact hHeld | exact HS.out _ LDZ3 | exact HS.out _ K3 | exact HS.out _ (K3.alloc K3.size _) | exact HS.out _ ((K3.setCell (p := ⟨w1.heap.size, 0, none⟩) K1.size _).setCell (p := ⟨w1.heap.size, 1, none⟩) K1.size _) | exact HS.out _ (((K3.alloc K3.size _).setCell (p := ⟨w3.heap.size, 0, none⟩) K3.size _).setCell (p := ⟨w3.heap.size, 1, none⟩) K3.size _)
            clear hK K hHeld
            have hHeld := hHeld2
            clear hHeld2
            refine wpAnyH_ready (rs := [4]) (by kernel_rfl) (by simp) ?_
            refine AllReadyH.cons rfl (fun K hK => ?_) (AllReadyH.nil)
            rw [if_pos (by kernel_rfl)]
            refine wp_look_none _ _ rfl bo fn F rfl (by first | exact OW.on K3 | exact OW.on (K3.alloc K3.size _)) y hyw rfl hFy ?_
            try simp only [Act.put, List.getElem_toArray, List.getElem_cons_succ, List.getElem_cons_zero, List.setIfInBounds_toArray, List.set_cons_succ, List.set_cons_zero]
            refine hK.out _ _ ?_ (fun hHeld2 => ?_)
            · first | exact hHeld | exact HS.out _ LDZ3 | exact HS.out _ K3 | exact HS.out _ (K3.alloc K3.size _) | exact HS.out _ ((K3.setCell (p := ⟨w1.heap.size, 0, none⟩) K1.size _).setCell (p := ⟨w1.heap.size, 1, none⟩) K1.size _) | exact HS.out _ (((K3.alloc K3.size _).setCell (p := ⟨w3.heap.size, 0, none⟩) K3.size _).setCell (p := ⟨w3.heap.size, 1, none⟩) K3.size _)
            clear hK K hHeld
            have hHeld := hHeld2
            clear hHeld2
            refine wpAnyH_take (i := 5) (v := .tuple #[.agg #[.int .i64 0, .slice none 0 0], .bool false]) rfl (by kernel_rfl) (by kernel_rfl) (by kernel_rfl) (fun _ _ _ h => h) (Or.inl ⟨by kernel_rfl, fun w hSw => by first | (go_simp; done) | (dsimp only at hSw; obtain ⟨hS0, hS1, hS2, hS3⟩ := hSw; go_simp; done) | rfl⟩) (by assumption) ?_
            simp only [Act.put, List.getElem_toArray, List.getElem_cons_succ, List.getElem_cons_zero, List.setIfInBounds_toArray, List.set_cons_succ, List.set_cons_zero]
            refine wpAnyH_take (i := 6) (v := .agg #[.int .i64 0, .slice none 0 0]) rfl (by kernel_rfl) (by kernel_rfl) (by kernel_rfl) (fun _ _ _ h => h) (Or.inl ⟨by kernel_rfl, fun w hSw => by first | (go_simp; done) | (dsimp only at hSw; obtain ⟨hS0, hS1, hS2, hS3⟩ := hSw; go_simp; done) | rfl⟩) (by assumption) ?_
            simp only [Act.put, List.getElem_toArray, List.getElem_cons_succ, List.getElem_cons_zero, List.setIfInBounds_toArray, List.set_cons_succ, List.set_cons_zero]
            refine wpAnyH_take (i := 7) (v := .bool false) rfl (by kernel_rfl) (by kernel_rfl) (by kernel_rfl) (fun _ _ _ h => h) (Or.inl ⟨by kernel_rfl, fun w hSw => by first | (go_simp; done) | (dsimp only at hSw; obtain ⟨hS0, hS1, hS2, hS3⟩ := hSw; go_simp; done) | rfl⟩) (by assumption) ?_
            simp only [Act.put, List.getElem_toArray, List.getElem_cons_succ, List.getElem_cons_zero, List.setIfInBounds_toArray, List.set_cons_succ, List.set_cons_zero]
            refine wpAnyH_ready (rs := [9]) (by kernel_rfl) (by simp) ?_
            refine AllReadyH.cons rfl (fun K hK => ?_) AllReadyH.nil
            go_simp
            refine hK.out _ _ ?_ (fun hHeld2 => ?_)
            · first | exact hHeld | exact HS.out _ LDZ3 | exact HS.out _ K3 | exact HS.out _ (K3.alloc K3.size _) | exact HS.out _ ((K3.setCell (p := ⟨w1.heap.size, 0, none⟩) K1.size _).setCell (p := ⟨w1.heap.size, 1, none⟩) K1.size _) | exact HS.out _ (((K3.alloc K3.size _).setCell (p := ⟨w3.heap.size, 0, none⟩) K3.size _).setCell (p := ⟨w3.heap.size, 1, none⟩) K3.size _)
            clear hK K hHeld
            have hHeld := hHeld2
            clear hHeld2
            refine wpAnyH_ready (rs := [10]) (by kernel_rfl) (by simp) ?_
            refine AllReadyH.cons rfl (fun K hK => ?_) AllReadyH.nil
            go_simp
            refine hK.out _ _ ?_ (fun hHeld2 => ?_)
            · first | exact hHeld | exact HS.out _ LDZ3 | exact HS.out _ K3 | exact HS.out _ (K3.alloc K3.size _) | exact HS.out _ ((K3.setCell (p := ⟨w1.heap.size, 0, none⟩) K1.size _).setCell (p := ⟨w1.heap.size, 1, none⟩) K1.size _) | exact HS.out _ (((K3.alloc K3.size _).setCell (p := ⟨w3.heap.size, 0, none⟩) K3.size _).setCell (p := ⟨w3.heap.size, 1, none⟩) K3.size _)
            clear hK K hHeld
            have hHeld := hHeld2
            clear hHeld2
            refine wpAnyH_done (by kernel_rfl) ?_ _
            clear hHeld
            go_wp2
            go_meet
            case rel => first | exact ⟨w1.heap.size, rfl, rfl, (K3.setCell (p := ⟨w1.heap.size, 0, none⟩) K1.size _).setCell (p := ⟨w1.heap.size, 1, none⟩) K1.size _, by rw [World.cell?_setCell_other _ _ _ _ (by simp)]; exact World.cell?_setCell_same _ _ _ y0, World.cell?_setCell_same _ _ _ (by rw [World.cell?_setCell_other _ _ _ _ (by simp)]; exact y1)⟩ | exact ⟨w3.heap.size, rfl, rfl, K3.alloc K3.size _, cell_at (heap_new _ _) 0, cell_at (heap_new _ _) 1⟩ | exact ⟨w3.heap.size, rfl, rfl, ((K3.alloc K3.size _).setCell (p := ⟨w3.heap.size, 0, none⟩) K3.size _).setCell (p := ⟨w3.heap.size, 1, none⟩) K3.size _, by rw [World.cell?_setCell_other _ _ _ _ (by simp)]; exact World.cell?_setCell_same _ _ _ (cell_at (heap_new _ _) 0), World.cell?_setCell_same _ _ _ (by rw [World.cell?_setCell_other _ _ _ _ (by simp)]; exact cell_at (heap_new _ _) 1)⟩
        · go_simp
          refine hK.out _ _ ?_ (fun hHeld2 => ?_)
          · first | exact hHeld | exact HS.out _ LDZ3 | exact HS.out _ K3 | exact HS.out _ (K3.alloc K3.size _) | exact HS.out _ ((K3.setCell (p := ⟨w1.heap.size, 0, none⟩) K1.size _).setCell (p := ⟨w1.heap.size, 1, none⟩) K1.size _) | exact HS.out _ (((K3.alloc K3.size _).setCell (p := ⟨w3.heap.size, 0, none⟩) K3.size _).setCell (p := ⟨w3.heap.size, 1, none⟩) K3.size _)
          clear hK K hHeld
          have hHeld := hHeld2
          clear hHeld2
          refine wpAnyH_ready (rs := [3]) (by kernel_rfl) (by simp) ?_
          refine AllReadyH.cons rfl (fun K hK => ?_) (AllReadyH.nil)
          go_simp
          go_wp2_with (go_at_call 106; refine (HEnd.out _ ?_).mono ?_; (first | exact LD3 | exact LDZ3); rintro e w3 ⟨rfl, L3⟩; have K3 : Below W.heap.size W w3 := (by first | exact LD3.trans (L3.mono LD3.size) | exact LDZ3.trans (L3.mono LDZ3.size)); (first | (have mz : w3.heap[w1.heap.size]? = some (Obj.cells #[.int .i64 0, .slice none 0 0] 103) := kept L3 (lt_of (heap_new w1.drew _)) (heap_new w1.drew _); have y0 : w3.cell? ⟨w1.heap.size, 0, none⟩ = some (.int .i64 0) := cell_at mz 0; have y1 : w3.cell? ⟨w1.heap.size, 1, none⟩ = some (.slice none 0 0) := cell_at mz 1; have f0 : w3.frozen? ⟨w1.heap.size, 0, none⟩ = false := frozen_at mz 0; have f1 : w3.frozen? ⟨w1.heap.size, 1, none⟩ = false := frozen_at mz 1) | skip))
          refine hK.out _ _ ?_ (fun hHeld2 => ?_)
          · first | exact hHeld | exact HS.out _ LDZ3 | exact HS.out _ K3 | exact HS.out _ (K3.alloc K3.size _) | exact HS.out _ ((K3.setCell (p := ⟨w1.heap.size, 0, none⟩) K1.size _).setCell (p := ⟨w1.heap.size, 1, none⟩) K1.size _) | exact HS.out _ (((K3.alloc K3.size _).setCell (p := ⟨w3.heap.size, 0, none⟩) K3.size _).setCell (p := ⟨w3.heap.size, 1, none⟩) K3.size _)
          clear hK K hHeld
          have hHeld := hHeld2
          clear hHeld2
          refine wpAnyH_ready (rs := [4]) (by kernel_rfl) (by simp) ?_
          refine AllReadyH.cons rfl (fun K hK => ?_) (AllReadyH.nil)
          rw [if_pos (by kernel_rfl)]
          refine wp_look_none _ _ rfl bo fn F rfl (by first | exact OW.on K3 | exact OW.on (K3.alloc K3.size _)) y hyw rfl hFy ?_
          try simp only [Act.put, List.getElem_toArray, List.getElem_cons_succ, List.getElem_cons_zero, List.setIfInBounds_toArray, List.set_cons_succ, List.set_cons_zero]
          refine hK.out _ _ ?_ (fun hHeld2 => ?_)
          · first | exact hHeld | exact HS.out _ LDZ3 | exact HS.out _ K3 | exact HS.out _ (K3.alloc K3.size _) | exact HS.out _ ((K3.setCell (p := ⟨w1.heap.size, 0, none⟩) K1.size _).setCell (p := ⟨w1.heap.size, 1, none⟩) K1.size _) | exact HS.out _ (((K3.alloc K3.size _).setCell (p := ⟨w3.heap.size, 0, none⟩) K3.size _).setCell (p := ⟨w3.heap.size, 1, none⟩) K3.size _)
          clear hK K hHeld
          have hHeld := hHeld2
          clear hHeld2
          refine wpAnyH_take (i := 5) (v := .tuple #[.agg #[.int .i64 0, .slice none 0 0], .bool false]) rfl (by kernel_rfl) (by kernel_rfl) (by kernel_rfl) (fun _ _ _ h => h) (Or.inl ⟨by kernel_rfl, fun w hSw => by first | (go_simp; done) | (dsimp only at hSw; obtain ⟨hS0, hS1, hS2, hS3⟩ := hSw; go_simp; done) | rfl⟩) (by assumption) ?_
          simp only [Act.put, List.getElem_toArray, List.getElem_cons_succ, List.getElem_cons_zero, List.setIfInBounds_toArray, List.set_cons_succ, List.set_cons_zero]
          refine wpAnyH_take (i := 6) (v := .agg #[.int .i64 0, .slice none 0 0]) rfl (by kernel_rfl) (by kernel_rfl) (by kernel_rfl) (fun _ _ _ h => h) (Or.inl ⟨by kernel_rfl, fun w hSw => by first | (go_simp; done) | (dsimp only at hSw; obtain ⟨hS0, hS1, hS2, hS3⟩ := hSw; go_simp; done) | rfl⟩) (by assumption) ?_
          simp only [Act.put, List.getElem_toArray, List.getElem_cons_succ, List.getElem_cons_zero, List.setIfInBounds_toArray, List.set_cons_succ, List.set_cons_zero]
          refine wpAnyH_take (i := 7) (v := .bool false) rfl (by kernel_rfl) (by kernel_rfl) (by kernel_rfl) (fun _ _ _ h => h) (Or.inl ⟨by kernel_rfl, fun w hSw => by first | (go_simp; done) | (dsimp only at hSw; obtain ⟨hS0, hS1, hS2, hS3⟩ := hSw; go_simp; done) | rfl⟩) (by assumption) ?_
          simp only [Act.put, List.getElem_toArray, List.getElem_cons_succ, List.getElem_cons_zero, List.setIfInBounds_toArray, List.set_cons_succ, List.set_cons_zero]
          refine wpAnyH_ready (rs := [9]) (by kernel_rfl) (by simp) ?_
          refine AllReadyH.cons rfl (fun K hK => ?_) AllReadyH.nil
          go_simp
          refine hK.out _ _ ?_ (fun hHeld2 => ?_)
          · first | exact hHeld | exact HS.out _ LDZ3 | exact HS.out _ K3 | exact HS.out _ (K3.alloc K3.size _) | exact HS.out _ ((K3.setCell (p := ⟨w1.heap.size, 0, none⟩) K1.size _).setCell (p := ⟨w1.heap.size, 1, none⟩) K1.size _) | exact HS.out _ (((K3.alloc K3.size _).setCell (p := ⟨w3.heap.size, 0, none⟩) K3.size _).setCell (p := ⟨w3.heap.size, 1, none⟩) K3.size _)
          clear hK K hHeld
          have hHeld := hHeld2
          clear hHeld2
          refine wpAnyH_ready (rs := [10]) (by kernel_rfl) (by simp) ?_
          refine AllReadyH.cons rfl (fun K hK => ?_) AllReadyH.nil
          go_simp
          refine hK.out _ _ ?_ (fun hHeld2 => ?_)
          · first | exact hHeld | exact HS.out _ LDZ3 | exact HS.out _ K3 | exact HS.out _ (K3.alloc K3.size _) | exact HS.out _ ((K3.setCell (p := ⟨w1.heap.size, 0, none⟩) K1.size _).setCell (p := ⟨w1.heap.size, 1, none⟩) K1.size _) | exact HS.out _ (((K3.alloc K3.size _).setCell (p := ⟨w3.heap.size, 0, none⟩) K3.size _).setCell (p := ⟨w3.heap.size, 1, none⟩) K3.size _)
          clear hK K hHeld
          have hHeld := hHeld2
          clear hHeld2
          refine wpAnyH_done (by kernel_rfl) ?_ _
          clear hHeld
          go_wp2
          go_meet
          case rel => first | exact ⟨w1.heap.size, rfl, rfl, (K3.setCell (p := ⟨w1.heap.size, 0, none⟩) K1.size _).setCell (p := ⟨w1.heap.size, 1, none⟩) K1.size _, by rw [World.cell?_setCell_other _ _ _ _ (by simp)]; exact World.cell?_setCell_same _ _ _ y0, World.cell?_setCell_same _ _ _ (by rw [World.cell?_setCell_other _ _ _ _ (by simp)]; exact y1)⟩ | exact ⟨w3.heap.size, rfl, rfl, K3.alloc K3.size _, cell_at (heap_new _ _) 0, cell_at (heap_new _ _) 1⟩ | exact ⟨w3.heap.size, rfl, rfl, ((K3.alloc K3.size _).setCell (p := ⟨w3.heap.size, 0, none⟩) K3.size _).setCell (p := ⟨w3.heap.size, 1, none⟩) K3.size _, by rw [World.cell?_setCell_other _ _ _ _ (by simp)]; exact World.cell?_setCell_same _ _ _ (cell_at (heap_new _ _) 0), World.cell?_setCell_same _ _ _ (by rw [World.cell?_setCell_other _ _ _ _ (by simp)]; exact cell_at (heap_new _ _) 1)⟩
      case rest =>
        obtain ⟨Z, rfl, rfl, KD, -, -⟩ := hcut
        clear s1 s2 s3 s4
        obtain ⟨s1, s2, s3, s4⟩ := HS.out _ KD
        go_wp2
        refine wp_region_held_drew (S := (fun w' => w'.cell? ⟨w.heap.size, 1, none⟩ = some (.map (some bo)) ∧ w'.cell? ⟨w.heap.size, 2, none⟩ = some (.map (some bg)) ∧ w'.cell? ⟨w.heap.size + 1, 0, none⟩ = some (.int .i64 c) ∧ w'.cell? ⟨w.heap.size + 1, 1, none⟩ = some (.slice (some ⟨g, 0, none⟩) n cap))) (by kernel_rfl) ?_ (fun hHeld => ?_)
        · exact HS.out _ KD.drew
        refine wpAnyH_take (i := 0) (v := .pointer (some ⟨w.heap.size, 1, none⟩)) rfl (by kernel_rfl) (by kernel_rfl) (by kernel_rfl) (fun _ _ _ h => h) (Or.inl ⟨by kernel_rfl, fun w hSw => by first | (go_simp; done) | (dsimp only at hSw; obtain ⟨hS0, hS1, hS2, hS3⟩ := hSw; go_simp; done) | rfl⟩) (by assumption) ?_
        simp only [Act.put, List.getElem_toArray, List.getElem_cons_succ, List.getElem_cons_zero, List.setIfInBounds_toArray, List.set_cons_succ, List.set_cons_zero]
        refine wpAnyH_take (i := 1) (v := .map (some bo)) rfl (by kernel_rfl) (by kernel_rfl) (by kernel_rfl) (fun _ _ _ h => h) (Or.inl ⟨by kernel_rfl, fun w hSw => by first | (go_simp; done) | (dsimp only at hSw; obtain ⟨hS0, hS1, hS2, hS3⟩ := hSw; go_simp; done) | rfl⟩) (by assumption) ?_
        simp only [Act.put, List.getElem_toArray, List.getElem_cons_succ, List.getElem_cons_zero, List.setIfInBounds_toArray, List.set_cons_succ, List.set_cons_zero]
        refine wpAnyH_take (i := 2) (v := .agg #[.int .i64 c, .slice (some ⟨g, 0, none⟩) n cap]) rfl (by kernel_rfl) (by kernel_rfl) (by kernel_rfl) (fun _ _ _ h => h) (Or.inl ⟨by kernel_rfl, fun w hSw => by first | (go_simp; done) | (dsimp only at hSw; obtain ⟨hS0, hS1, hS2, hS3⟩ := hSw; go_simp; done) | rfl⟩) (by assumption) ?_
        simp only [Act.put, List.getElem_toArray, List.getElem_cons_succ, List.getElem_cons_zero, List.setIfInBounds_toArray, List.set_cons_succ, List.set_cons_zero]
        refine wpAnyH_take (i := 4) (v := .agg #[.int .i64 c, .slice (some ⟨g, 0, none⟩) n cap]) rfl (by kernel_rfl) (by kernel_rfl) (by kernel_rfl) (fun _ _ _ h => h) (Or.inl ⟨by kernel_rfl, fun w hSw => by first | (go_simp; done) | (dsimp only at hSw; obtain ⟨hS0, hS1, hS2, hS3⟩ := hSw; go_simp; done) | rfl⟩) (by assumption) ?_
        simp only [Act.put, List.getElem_toArray, List.getElem_cons_succ, List.getElem_cons_zero, List.setIfInBounds_toArray, List.set_cons_succ, List.set_cons_zero]
        refine wpAnyH_ready (rs := [3]) (by kernel_rfl) (by simp) ?_
        refine AllReadyH.cons rfl (fun K hK => ?_) AllReadyH.nil
        go_simp
        go_wp2_with (go_at_call 106; refine (HEnd.out _ ?_).mono ?_; (exact KD.drew); rintro e w7 ⟨rfl, L7⟩; have K7 : Below W.heap.size W w7 := KD.drew.trans (L7.mono KD.drew.size))
        refine hK.out _ _ ?_ (fun hHeld2 => ?_)
        · first | exact hHeld | exact HS.out _ K7 | exact HSG.out _ _ K7 G8
        clear hK K hHeld
        have hHeld := hHeld2
        clear hHeld2
        refine wpAnyH_ready (rs := [5]) (by kernel_rfl) (by simp) ?_
        refine AllReadyH.cons rfl (fun K hK => ?_) AllReadyH.nil
        rw [if_pos (by kernel_rfl)]
        refine wp_store_open _ _ _ rfl bo fn F rfl (OW.on K7) (by unfold maxLen; omega) y hyw rfl _ rfl o (HV.out _ (N.trans (K7.mono N.size))) ?_
        intro w8 O8 G8
        try simp only [Act.put, List.getElem_toArray, List.getElem_cons_succ, List.getElem_cons_zero, List.setIfInBounds_toArray, List.set_cons_succ, List.set_cons_zero]
        refine hK.out _ _ ?_ (fun hHeld2 => ?_)
        · first | exact hHeld | exact HS.out _ K7 | exact HSG.out _ _ K7 G8
        clear hK K hHeld
        have hHeld := hHeld2
        clear hHeld2
        refine wpAnyH_done (by kernel_rfl) ?_ _
        go_wp2
        refine ⟨rfl, _, results_none rfl _ _ _, ?_⟩
        exact ⟨rfl, by rw [HE.out]; exact O8, (JW.on K7).off G8 hne.symm, grown_below (N.trans (K7.mono N.size)) G8⟩
    | some b =>
      have HE3 : Hid (_ → _) := HG3.out b rfl hFy
      have HE4 : Hid (_ → _) := HG4.out b rfl hFy
      have hbl := hF y b hFy
      obtain ⟨D, hD, hFct⟩ := id OW
      obtain ⟨hhD, vD, hatD, WB⟩ := (hFct y hyw).2 b hFy
      have WB0 : Wv bs W vD b := WB
      obtain ⟨gb, cb, rfl, -⟩ := WB
      clear HG1 HG2 HG3 HG4
      go_wp2
      go_cut [6, 7] from 8 (fun s6 s7 wc => ∃ Z, s6 = .pointer (some ⟨Z, 0, none⟩) ∧ s7 = .bool true ∧ Below W.heap.size W wc ∧ wc.cell? ⟨Z, 0, none⟩ = some (.int .i64 b.c) ∧ wc.cell? ⟨Z, 1, none⟩ = some (.slice (some ⟨gb, 0, none⟩) b.s.length cb))
      case first =>
        refine wp_region_held_drew (S := (fun w' => w'.cell? ⟨w.heap.size, 1, none⟩ = some (.map (some bo)) ∧ w'.cell? ⟨w.heap.size, 2, none⟩ = some (.map (some bg)) ∧ w'.cell? ⟨w.heap.size + 1, 0, none⟩ = some (.int .i64 c) ∧ w'.cell? ⟨w.heap.size + 1, 1, none⟩ = some (.slice (some ⟨g, 0, none⟩) n cap))) (by kernel_rfl) ?_ (fun hHeld => ?_)
        · exact HS.out _ LD3
        refine wpAnyH_take (i := 0) (v := .pointer (some ⟨w.heap.size, 1, none⟩)) rfl (by kernel_rfl) (by kernel_rfl) (by kernel_rfl) (fun _ _ _ h => h) (Or.inl ⟨by kernel_rfl, fun w hSw => by first | (go_simp; done) | (dsimp only at hSw; obtain ⟨hS0, hS1, hS2, hS3⟩ := hSw; go_simp; done) | rfl⟩) (by assumption) ?_
        simp only [Act.put, List.getElem_toArray, List.getElem_cons_succ, List.getElem_cons_zero, List.setIfInBounds_toArray, List.set_cons_succ, List.set_cons_zero]
        refine wpAnyH_take (i := 1) (v := .map (some bo)) rfl (by kernel_rfl) (by kernel_rfl) (by kernel_rfl) (fun _ _ _ h => h) (Or.inl ⟨by kernel_rfl, fun w hSw => by first | (go_simp; done) | (dsimp only at hSw; obtain ⟨hS0, hS1, hS2, hS3⟩ := hSw; go_simp; done) | rfl⟩) (by assumption) ?_
        simp only [Act.put, List.getElem_toArray, List.getElem_cons_succ, List.getElem_cons_zero, List.setIfInBounds_toArray, List.set_cons_succ, List.set_cons_zero]
        refine wpAnyH_take (i := 2) (v := .agg #[.int .i64 c, .slice (some ⟨g, 0, none⟩) n cap]) rfl (by kernel_rfl) (by kernel_rfl) (by kernel_rfl) (fun _ _ _ h => h) (Or.inl ⟨by kernel_rfl, fun w hSw => by first | (go_simp; done) | (dsimp only at hSw; obtain ⟨hS0, hS1, hS2, hS3⟩ := hSw; go_simp; done) | rfl⟩) (by assumption) ?_
        simp only [Act.put, List.getElem_toArray, List.getElem_cons_succ, List.getElem_cons_zero, List.setIfInBounds_toArray, List.set_cons_succ, List.set_cons_zero]
        refine wpAnyH_ready (rs := [3, 8]) (by kernel_rfl) (by simp) ?_
        refine AllReadyH.cons rfl (fun K hK => ?_) (AllReadyH.cons rfl (fun K hK => ?_) (AllReadyH.nil))
        · go_simp
          go_wp2_with (go_at_call 106; refine (HEnd.out _ ?_).mono ?_; (first | exact LD3 | exact LDZ3); rintro e w3 ⟨rfl, L3⟩; have K3 : Below W.heap.size W w3 := (by first | exact LD3.trans (L3.mono LD3.size) | exact LDZ3.trans (L3.mono LDZ3.size)); (first | (have mz : w3.heap[w1.heap.size]? = some (Obj.cells #[.int .i64 0, .slice none 0 0] 103) := kept L3 (lt_of (heap_new w1.drew _)) (heap_new w1.drew _); have y0 : w3.cell? ⟨w1.heap.size, 0, none⟩ = some (.int .i64 0) := cell_at mz 0; have y1 : w3.cell? ⟨w1.heap.size, 1, none⟩ = some (.slice none 0 0) := cell_at mz 1; have f0 : w3.frozen? ⟨w1.heap.size, 0, none⟩ = false := frozen_at mz 0; have f1 : w3.frozen? ⟨w1.heap.size, 1, none⟩ = false := frozen_at mz 1) | skip))
          refine hK.out _ _ ?_ (fun hHeld2 => ?_)
          · first | exact hHeld | exact HS.out _ LDZ3 | exact HS.out _ K3 | exact HS.out _ (K3.alloc K3.size _) | exact HS.out _ ((K3.setCell (p := ⟨w1.heap.size, 0, none⟩) K1.size _).setCell (p := ⟨w1.heap.size, 1, none⟩) K1.size _) | exact HS.out _ (((K3.alloc K3.size _).setCell (p := ⟨w3.heap.size, 0, none⟩) K3.size _).setCell (p := ⟨w3.heap.size, 1, none⟩) K3.size _)
          clear hK K hHeld
          have hHeld := hHeld2
          clear hHeld2
          refine wpAnyH_ready (rs := [4, 8]) (by kernel_rfl) (by simp) ?_
          refine AllReadyH.cons rfl (fun K hK => ?_) (AllReadyH.cons rfl (fun K hK => ?_) (AllReadyH.nil))
          · rw [if_pos (by kernel_rfl)]
            refine wp_look_val _ _ rfl bo fn D rfl (by first | exact own_on hD K3 hD.lt | exact own_on hD (K3.alloc K3.size _) hD.lt) y hyw rfl _ hhD hatD ?_
            try simp only [Act.put, List.getElem_toArray, List.getElem_cons_succ, List.getElem_cons_zero, List.setIfInBounds_toArray, List.set_cons_succ, List.set_cons_zero]
            refine hK.out _ _ ?_ (fun hHeld2 => ?_)
            · first | exact hHeld | exact HS.out _ LDZ3 | exact HS.out _ K3 | exact HS.out _ (K3.alloc K3.size _) | exact HS.out _ ((K3.setCell (p := ⟨w1.heap.size, 0, none⟩) K1.size _).setCell (p := ⟨w1.heap.size, 1, none⟩) K1.size _) | exact HS.out _ (((K3.alloc K3.size _).setCell (p := ⟨w3.heap.size, 0, none⟩) K3.size _).setCell (p := ⟨w3.heap.size, 1, none⟩) K3.size _)
            clear hK K hHeld
            have hHeld := hHeld2
            clear hHeld2
            refine wpAnyH_take (i := 5) (v := .tuple #[.agg #[.int .i64 b.c, .slice (some ⟨gb, 0, none⟩) b.s.length cb], .bool true]) rfl (by kernel_rfl) (by kernel_rfl) (by kernel_rfl) (fun _ _ _ h => h) (Or.inl ⟨by kernel_rfl, fun w hSw => by first | (go_simp; done) | (dsimp only at hSw; obtain ⟨hS0, hS1, hS2, hS3⟩ := hSw; go_simp; done) | rfl⟩) (by assumption) ?_
            simp only [Act.put, List.getElem_toArray, List.getElem_cons_succ, List.getElem_cons_zero, List.setIfInBounds_toArray, List.set_cons_succ, List.set_cons_zero]
            refine wpAnyH_take (i := 6) (v := .agg #[.int .i64 b.c, .slice (some ⟨gb, 0, none⟩) b.s.length cb]) rfl (by kernel_rfl) (by kernel_rfl) (by kernel_rfl) (fun _ _ _ h => h) (Or.inl ⟨by kernel_rfl, fun w hSw => by first | (go_simp; done) | (dsimp only at hSw; obtain ⟨hS0, hS1, hS2, hS3⟩ := hSw; go_simp; done) | rfl⟩) (by assumption) ?_
            simp only [Act.put, List.getElem_toArray, List.getElem_cons_succ, List.getElem_cons_zero, List.setIfInBounds_toArray, List.set_cons_succ, List.set_cons_zero]
            refine wpAnyH_take (i := 7) (v := .bool true) rfl (by kernel_rfl) (by kernel_rfl) (by kernel_rfl) (fun _ _ _ h => h) (Or.inl ⟨by kernel_rfl, fun w hSw => by first | (go_simp; done) | (dsimp only at hSw; obtain ⟨hS0, hS1, hS2, hS3⟩ := hSw; go_simp; done) | rfl⟩) (by assumption) ?_
            simp only [Act.put, List.getElem_toArray, List.getElem_cons_succ, List.getElem_cons_zero, List.setIfInBounds_toArray, List.set_cons_succ, List.set_cons_zero]
            refine wpAnyH_ready (rs := [8]) (by kernel_rfl) (by simp) ?_
            refine AllReadyH.cons rfl (fun K hK => ?_) (AllReadyH.nil)
            go_simp
            refine hK.out _ _ ?_ (fun hHeld2 => ?_)
            · first | exact hHeld | exact HS.out _ LDZ3 | exact HS.out _ K3 | exact HS.out _ (K3.alloc K3.size _) | exact HS.out _ ((K3.setCell (p := ⟨w1.heap.size, 0, none⟩) K1.size _).setCell (p := ⟨w1.heap.size, 1, none⟩) K1.size _) | exact HS.out _ (((K3.alloc K3.size _).setCell (p := ⟨w3.heap.size, 0, none⟩) K3.size _).setCell (p := ⟨w3.heap.size, 1, none⟩) K3.size _)
            clear hK K hHeld
            have hHeld := hHeld2
            clear hHeld2
            refine wpAnyH_ready (rs := [9]) (by kernel_rfl) (by simp) ?_
            refine AllReadyH.cons rfl (fun K hK => ?_) AllReadyH.nil
            go_simp
            refine hK.out _ _ ?_ (fun hHeld2 => ?_)
            · first | exact hHeld | exact HS.out _ LDZ3 | exact HS.out _ K3 | exact HS.out _ (K3.alloc K3.size _) | exact HS.out _ ((K3.setCell (p := ⟨w1.heap.size, 0, none⟩) K1.size _).setCell (p := ⟨w1.heap.size, 1, none⟩) K1.size _) | exact HS.out _ (((K3.alloc K3.size _).setCell (p := ⟨w3.heap.size, 0, none⟩) K3.size _).setCell (p := ⟨w3.heap.size, 1, none⟩) K3.size _)
            clear hK K hHeld
            have hHeld := hHeld2
            clear hHeld2
            refine wpAnyH_ready (rs := [10]) (by kernel_rfl) (by simp) ?_
            refine AllReadyH.cons rfl (fun K hK => ?_) AllReadyH.nil
            go_simp
            refine hK.out _ _ ?_ (fun hHeld2 => ?_)
            · first | exact hHeld | exact HS.out _ LDZ3 | exact HS.out _ K3 | exact HS.out _ (K3.alloc K3.size _) | exact HS.out _ ((K3.setCell (p := ⟨w1.heap.size, 0, none⟩) K1.size _).setCell (p := ⟨w1.heap.size, 1, none⟩) K1.size _) | exact HS.out _ (((K3.alloc K3.size _).setCell (p := ⟨w3.heap.size, 0, none⟩) K3.size _).setCell (p := ⟨w3.heap.size, 1, none⟩) K3.size _)
            clear hK K hHeld
            have hHeld := hHeld2
            clear hHeld2
            refine wpAnyH_done (by kernel_rfl) ?_ _
            clear hHeld
            go_wp2
            go_meet
            case rel => first | exact ⟨w1.heap.size, rfl, rfl, (K3.setCell (p := ⟨w1.heap.size, 0, none⟩) K1.size _).setCell (p := ⟨w1.heap.size, 1, none⟩) K1.size _, by rw [World.cell?_setCell_other _ _ _ _ (by simp)]; exact World.cell?_setCell_same _ _ _ y0, World.cell?_setCell_same _ _ _ (by rw [World.cell?_setCell_other _ _ _ _ (by simp)]; exact y1)⟩ | exact ⟨w3.heap.size, rfl, rfl, K3.alloc K3.size _, cell_at (heap_new _ _) 0, cell_at (heap_new _ _) 1⟩ | exact ⟨w3.heap.size, rfl, rfl, ((K3.alloc K3.size _).setCell (p := ⟨w3.heap.size, 0, none⟩) K3.size _).setCell (p := ⟨w3.heap.size, 1, none⟩) K3.size _, by rw [World.cell?_setCell_other _ _ _ _ (by simp)]; exact World.cell?_setCell_same _ _ _ (cell_at (heap_new _ _) 0), World.cell?_setCell_same _ _ _ (by rw [World.cell?_setCell_other _ _ _ _ (by simp)]; exact cell_at (heap_new _ _) 1)⟩
          · go_simp
            refine hK.out _ _ ?_ (fun hHeld2 => ?_)
            · first | exact hHeld | exact HS.out _ LDZ3 | exact HS.out _ K3 | exact HS.out _ (K3.alloc K3.size _) | exact HS.out _ ((K3.setCell (p := ⟨w1.heap.size, 0, none⟩) K1.size _).setCell (p := ⟨w1.heap.size, 1, none⟩) K1.size _) | exact HS.out _ (((K3.alloc K3.size _).setCell (p := ⟨w3.heap.size, 0, none⟩) K3.size _).setCell (p := ⟨w3.heap.size, 1, none⟩) K3.size _)
            clear hK K hHeld
            have hHeld := hHeld2
            clear hHeld2
            refine wpAnyH_ready (rs := [4]) (by kernel_rfl) (by simp) ?_
            refine AllReadyH.cons rfl (fun K hK => ?_) (AllReadyH.nil)
            rw [if_pos (by kernel_rfl)]
            refine wp_look_val _ _ rfl bo fn D rfl (by first | exact own_on hD K3 hD.lt | exact own_on hD (K3.alloc K3.size _) hD.lt) y hyw rfl _ hhD hatD ?_
            try simp only [Act.put, List.getElem_toArray, List.getElem_cons_succ, List.getElem_cons_zero, List.setIfInBounds_toArray, List.set_cons_succ, List.set_cons_zero]
            refine hK.out _ _ ?_ (fun hHeld2 => ?_)
            · first | exact hHeld | exact HS.out _ LDZ3 | exact HS.out _ K3 | exact HS.out _ (K3.alloc K3.size _) | exact HS.out _ ((K3.setCell (p := ⟨w1.heap.size, 0, none⟩) K1.size _).setCell (p := ⟨w1.heap.size, 1, none⟩) K1.size _) | exact HS.out _ (((K3.alloc K3.size _).setCell (p := ⟨w3.heap.size, 0, none⟩) K3.size _).setCell (p := ⟨w3.heap.size, 1, none⟩) K3.size _)
            clear hK K hHeld
            have hHeld := hHeld2
            clear hHeld2
            refine wpAnyH_take (i := 5) (v := .tuple #[.agg #[.int .i64 b.c, .slice (some ⟨gb, 0, none⟩) b.s.length cb], .bool true]) rfl (by kernel_rfl) (by kernel_rfl) (by kernel_rfl) (fun _ _ _ h => h) (Or.inl ⟨by kernel_rfl, fun w hSw => by first | (go_simp; done) | (dsimp only at hSw; obtain ⟨hS0, hS1, hS2, hS3⟩ := hSw; go_simp; done) | rfl⟩) (by assumption) ?_
            simp only [Act.put, List.getElem_toArray, List.getElem_cons_succ, List.getElem_cons_zero, List.setIfInBounds_toArray, List.set_cons_succ, List.set_cons_zero]
            refine wpAnyH_take (i := 6) (v := .agg #[.int .i64 b.c, .slice (some ⟨gb, 0, none⟩) b.s.length cb]) rfl (by kernel_rfl) (by kernel_rfl) (by kernel_rfl) (fun _ _ _ h => h) (Or.inl ⟨by kernel_rfl, fun w hSw => by first | (go_simp; done) | (dsimp only at hSw; obtain ⟨hS0, hS1, hS2, hS3⟩ := hSw; go_simp; done) | rfl⟩) (by assumption) ?_
            simp only [Act.put, List.getElem_toArray, List.getElem_cons_succ, List.getElem_cons_zero, List.setIfInBounds_toArray, List.set_cons_succ, List.set_cons_zero]
            refine wpAnyH_take (i := 7) (v := .bool true) rfl (by kernel_rfl) (by kernel_rfl) (by kernel_rfl) (fun _ _ _ h => h) (Or.inl ⟨by kernel_rfl, fun w hSw => by first | (go_simp; done) | (dsimp only at hSw; obtain ⟨hS0, hS1, hS2, hS3⟩ := hSw; go_simp; done) | rfl⟩) (by assumption) ?_
            simp only [Act.put, List.getElem_toArray, List.getElem_cons_succ, List.getElem_cons_zero, List.setIfInBounds_toArray, List.set_cons_succ, List.set_cons_zero]
            refine wpAnyH_ready (rs := [9]) (by kernel_rfl) (by simp) ?_
            refine AllReadyH.cons rfl (fun K hK => ?_) AllReadyH.nil
            go_simp
            refine hK.out _ _ ?_ (fun hHeld2 => ?_)
            · first | exact hHeld | exact HS.out _ LDZ3 | exact HS.out _ K3 | exact HS.out _ (K3.alloc K3.size _) | exact HS.out _ ((K3.setCell (p := ⟨w1.heap.size, 0, none⟩) K1.size _).setCell (p := ⟨w1.heap.size, 1, none⟩) K1.size _) | exact HS.out _ (((K3.alloc K3.size _).setCell (p := ⟨w3.heap.size, 0, none⟩) K3.size _).setCell (p := ⟨w3.heap.size, 1, none⟩) K3.size _)
            clear hK K hHeld
            have hHeld := hHeld2
            clear hHeld2
            refine wpAnyH_ready (rs := [10]) (by kernel_rfl) (by simp) ?_
            refine AllReadyH.cons rfl (fun K hK => ?_) AllReadyH.nil
            go_simp
            refine hK.out _ _ ?_ (fun hHeld2 => ?_)
            · first | exact hHeld | exact HS.out _ LDZ3 | exact HS.out _ K3 | exact HS.out _ (K3.alloc K3.size _) | exact HS.out _ ((K3.setCell (p := ⟨w1.heap.size, 0, none⟩) K1.size _).setCell (p := ⟨w1.heap.size, 1, none⟩) K1.size _) | exact HS.out _ (((K3.alloc K3.size _).setCell (p := ⟨w3.heap.size, 0, none⟩) K3.size _).setCell (p := ⟨w3.heap.size, 1, none⟩) K3.size _)
            clear hK K hHeld
            have hHeld := hHeld2
            clear hHeld2
            refine wpAnyH_done (by kernel_rfl) ?_ _
            clear hHeld
            go_wp2
            go_meet
            case rel => first | exact ⟨w1.heap.size, rfl, rfl, (K3.setCell (p := ⟨w1.heap.size, 0, none⟩) K1.size _).setCell (p := ⟨w1.heap.size, 1, none⟩) K1.size _, by rw [World.cell?_setCell_other _ _ _ _ (by simp)]; exact World.cell?_setCell_same _ _ _ y0, World.cell?_setCell_same _ _ _ (by rw [World.cell?_setCell_other _ _ _ _ (by simp)]; exact y1)⟩ | exact ⟨w3.heap.size, rfl, rfl, K3.alloc K3.size _, cell_at (heap_new _ _) 0, cell_at (heap_new _ _) 1⟩ | exact ⟨w3.heap.size, rfl, rfl, ((K3.alloc K3.size _).setCell (p := ⟨w3.heap.size, 0, none⟩) K3.size _).setCell (p := ⟨w3.heap.size, 1, none⟩) K3.size _, by rw [World.cell?_setCell_other _ _ _ _ (by simp)]; exact World.cell?_setCell_same _ _ _ (cell_at (heap_new _ _) 0), World.cell?_setCell_same _ _ _ (by rw [World.cell?_setCell_other _ _ _ _ (by simp)]; exact cell_at (heap_new _ _) 1)⟩
        · go_simp
          refine hK.out _ _ ?_ (fun hHeld2 => ?_)
          · first | exact hHeld | exact HS.out _ LDZ3 | exact HS.out _ K3 | exact HS.out _ (K3.alloc K3.size _) | exact HS.out _ ((K3.setCell (p := ⟨w1.heap.size, 0, none⟩) K1.size _).setCell (p := ⟨w1.heap.size, 1, none⟩) K1.size _) | exact HS.out _ (((K3.alloc K3.size _).setCell (p := ⟨w3.heap.size, 0, none⟩) K3.size _).setCell (p := ⟨w3.heap.size, 1, none⟩) K3.size _)
          clear hK K hHeld
          have hHeld := hHeld2
          clear hHeld2
          refine wpAnyH_ready (rs := [3]) (by kernel_rfl) (by simp) ?_
          refine AllReadyH.cons rfl (fun K hK => ?_) (AllReadyH.nil)
          go_simp
          go_wp2_with (go_at_call 106; refine (HEnd.out _ ?_).mono ?_; (first | exact LD3 | exact LDZ3); rintro e w3 ⟨rfl, L3⟩; have K3 : Below W.heap.size W w3 := (by first | exact LD3.trans (L3.mono LD3.size) | exact LDZ3.trans (L3.mono LDZ3.size)); (first | (have mz : w3.heap[w1.heap.size]? = some (Obj.cells #[.int .i64 0, .slice none 0 0] 103) := kept L3 (lt_of (heap_new w1.drew _)) (heap_new w1.drew _); have y0 : w3.cell? ⟨w1.heap.size, 0, none⟩ = some (.int .i64 0) := cell_at mz 0; have y1 : w3.cell? ⟨w1.heap.size, 1, none⟩ = some (.slice none 0 0) := cell_at mz 1; have f0 : w3.frozen? ⟨w1.heap.size, 0, none⟩ = false := frozen_at mz 0; have f1 : w3.frozen? ⟨w1.heap.size, 1, none⟩ = false := frozen_at mz 1) | skip))
          refine hK.out _ _ ?_ (fun hHeld2 => ?_)
          · first | exact hHeld | exact HS.out _ LDZ3 | exact HS.out _ K3 | exact HS.out _ (K3.alloc K3.size _) | exact HS.out _ ((K3.setCell (p := ⟨w1.heap.size, 0, none⟩) K1.size _).setCell (p := ⟨w1.heap.size, 1, none⟩) K1.size _) | exact HS.out _ (((K3.alloc K3.size _).setCell (p := ⟨w3.heap.size, 0, none⟩) K3.size _).setCell (p := ⟨w3.heap.size, 1, none⟩) K3.size _)
          clear hK K hHeld
          have hHeld := hHeld2
          clear hHeld2
          refine wpAnyH_ready (rs := [4]) (by kernel_rfl) (by simp) ?_
          refine AllReadyH.cons rfl (fun K hK => ?_) (AllReadyH.nil)
          rw [if_pos (by kernel_rfl)]
          refine wp_look_val _ _ rfl bo fn D rfl (by first | exact own_on hD K3 hD.lt | exact own_on hD (K3.alloc K3.size _) hD.lt) y hyw rfl _ hhD hatD ?_
          try simp only [Act.put, List.getElem_toArray, List.getElem_cons_succ, List.getElem_cons_zero, List.setIfInBounds_toArray, List.set_cons_succ, List.set_cons_zero]
          refine hK.out _ _ ?_ (fun hHeld2 => ?_)
          · first | exact hHeld | exact HS.out _ LDZ3 | exact HS.out _ K3 | exact HS.out _ (K3.alloc K3.size _) | exact HS.out _ ((K3.setCell (p := ⟨w1.heap.size, 0, none⟩) K1.size _).setCell (p := ⟨w1.heap.size, 1, none⟩) K1.size _) | exact HS.out _ (((K3.alloc K3.size _).setCell (p := ⟨w3.heap.size, 0, none⟩) K3.size _).setCell (p := ⟨w3.heap.size, 1, none⟩) K3.size _)
          clear hK K hHeld
          have hHeld := hHeld2
          clear hHeld2
          refine wpAnyH_take (i := 5) (v := .tuple #[.agg #[.int .i64 b.c, .slice (some ⟨gb, 0, none⟩) b.s.length cb], .bool true]) rfl (by kernel_rfl) (by kernel_rfl) (by kernel_rfl) (fun _ _ _ h => h) (Or.inl ⟨by kernel_rfl, fun w hSw => by first | (go_simp; done) | (dsimp only at hSw; obtain ⟨hS0, hS1, hS2, hS3⟩ := hSw; go_simp; done) | rfl⟩) (by assumption) ?_
          simp only [Act.put, List.getElem_toArray, List.getElem_cons_succ, List.getElem_cons_zero, List.setIfInBounds_toArray, List.set_cons_succ, List.set_cons_zero]
          refine wpAnyH_take (i := 6) (v := .agg #[.int .i64 b.c, .slice (some ⟨gb, 0, none⟩) b.s.length cb]) rfl (by kernel_rfl) (by kernel_rfl) (by kernel_rfl) (fun _ _ _ h => h) (Or.inl ⟨by kernel_rfl, fun w hSw => by first | (go_simp; done) | (dsimp only at hSw; obtain ⟨hS0, hS1, hS2, hS3⟩ := hSw; go_simp; done) | rfl⟩) (by assumption) ?_
          simp only [Act.put, List.getElem_toArray, List.getElem_cons_succ, List.getElem_cons_zero, List.setIfInBounds_toArray, List.set_cons_succ, List.set_cons_zero]
          refine wpAnyH_take (i := 7) (v := .bool true) rfl (by kernel_rfl) (by kernel_rfl) (by kernel_rfl) (fun _ _ _ h => h) (Or.inl ⟨by kernel_rfl, fun w hSw => by first | (go_simp; done) | (dsimp only at hSw; obtain ⟨hS0, hS1, hS2, hS3⟩ := hSw; go_simp; done) | rfl⟩) (by assumption) ?_
          simp only [Act.put, List.getElem_toArray, List.getElem_cons_succ, List.getElem_cons_zero, List.setIfInBounds_toArray, List.set_cons_succ, List.set_cons_zero]
          refine wpAnyH_ready (rs := [9]) (by kernel_rfl) (by simp) ?_
          refine AllReadyH.cons rfl (fun K hK => ?_) AllReadyH.nil
          go_simp
          refine hK.out _ _ ?_ (fun hHeld2 => ?_)
          · first | exact hHeld | exact HS.out _ LDZ3 | exact HS.out _ K3 | exact HS.out _ (K3.alloc K3.size _) | exact HS.out _ ((K3.setCell (p := ⟨w1.heap.size, 0, none⟩) K1.size _).setCell (p := ⟨w1.heap.size, 1, none⟩) K1.size _) | exact HS.out _ (((K3.alloc K3.size _).setCell (p := ⟨w3.heap.size, 0, none⟩) K3.size _).setCell (p := ⟨w3.heap.size, 1, none⟩) K3.size _)
          clear hK K hHeld
          have hHeld := hHeld2
          clear hHeld2
          refine wpAnyH_ready (rs := [10]) (by kernel_rfl) (by simp) ?_
          refine AllReadyH.cons rfl (fun K hK => ?_) AllReadyH.nil
          go_simp
          refine hK.out _ _ ?_ (fun hHeld2 => ?_)
          · first | exact hHeld | exact HS.out _ LDZ3 | exact HS.out _ K3 | exact HS.out _ (K3.alloc K3.size _) | exact HS.out _ ((K3.setCell (p := ⟨w1.heap.size, 0, none⟩) K1.size _).setCell (p := ⟨w1.heap.size, 1, none⟩) K1.size _) | exact HS.out _ (((K3.alloc K3.size _).setCell (p := ⟨w3.heap.size, 0, none⟩) K3.size _).setCell (p := ⟨w3.heap.size, 1, none⟩) K3.size _)
          clear hK K hHeld
          have hHeld := hHeld2
          clear hHeld2
          refine wpAnyH_done (by kernel_rfl) ?_ _
          clear hHeld
          go_wp2
          go_meet
          case rel => first | exact ⟨w1.heap.size, rfl, rfl, (K3.setCell (p := ⟨w1.heap.size, 0, none⟩) K1.size _).setCell (p := ⟨w1.heap.size, 1, none⟩) K1.size _, by rw [World.cell?_setCell_other _ _ _ _ (by simp)]; exact World.cell?_setCell_same _ _ _ y0, World.cell?_setCell_same _ _ _ (by rw [World.cell?_setCell_other _ _ _ _ (by simp)]; exact y1)⟩ | exact ⟨w3.heap.size, rfl, rfl, K3.alloc K3.size _, cell_at (heap_new _ _) 0, cell_at (heap_new _ _) 1⟩ | exact ⟨w3.heap.size, rfl, rfl, ((K3.alloc K3.size _).setCell (p := ⟨w3.heap.size, 0, none⟩) K3.size _).setCell (p := ⟨w3.heap.size, 1, none⟩) K3.size _, by rw [World.cell?_setCell_other _ _ _ _ (by simp)]; exact World.cell?_setCell_same _ _ _ (cell_at (heap_new _ _) 0), World.cell?_setCell_same _ _ _ (by rw [World.cell?_setCell_other _ _ _ _ (by simp)]; exact cell_at (heap_new _ _) 1)⟩
      case rest =>
        obtain ⟨Z, rfl, rfl, KC, z0, z1⟩ := hcut
        obtain ⟨s1, s2, s3, s4⟩ := HS.out _ KC
        have HA : Hid (_) := ahead_val _ _ o b wc hl hbl (HV.out _ (N.trans (KC.mono N.size))) (WB0.on KC)
        generalize ahead o b = aB at *
        go_wp2_with fail
        refine Calls.mono HA.out ?_
        rintro e w5 ⟨rfl, L5⟩
        have KD : Below W.heap.size W w5 := KC.trans (L5.mono KC.size)
        clear s1 s2 s3 s4 z0 z1
        cases aB
        · have HE : Hid (_) := HE4.out rfl
          go_wp2
          refine ⟨rfl, _, results_none rfl _ _ _, ?_⟩
          exact ⟨rfl, by rw [HE.out]; exact HMono.out _ _ (OW.on KD), JW.on KD, below_grown (N.trans (KD.mono N.size)) _⟩
        · have HE : Hid (_) := HE3.out rfl
          obtain ⟨s1, s2, s3, s4⟩ := HS.out _ KD
          go_wp2
          refine wp_region_held_drew (S := (fun w' => w'.cell? ⟨w.heap.size, 1, none⟩ = some (.map (some bo)) ∧ w'.cell? ⟨w.heap.size, 2, none⟩ = some (.map (some bg)) ∧ w'.cell? ⟨w.heap.size + 1, 0, none⟩ = some (.int .i64 c) ∧ w'.cell? ⟨w.heap.size + 1, 1, none⟩ = some (.slice (some ⟨g, 0, none⟩) n cap))) (by kernel_rfl) ?_ (fun hHeld => ?_)
          · exact HS.out _ KD.drew
          refine wpAnyH_take (i := 0) (v := .pointer (some ⟨w.heap.size, 1, none⟩)) rfl (by kernel_rfl) (by kernel_rfl) (by kernel_rfl) (fun _ _ _ h => h) (Or.inl ⟨by kernel_rfl, fun w hSw => by first | (go_simp; done) | (dsimp only at hSw; obtain ⟨hS0, hS1, hS2, hS3⟩ := hSw; go_simp; done) | rfl⟩) (by assumption) ?_
          simp only [Act.put, List.getElem_toArray, List.getElem_cons_succ, List.getElem_cons_zero, List.setIfInBounds_toArray, List.set_cons_succ, List.set_cons_zero]
          refine wpAnyH_take (i := 1) (v := .map (some bo)) rfl (by kernel_rfl) (by kernel_rfl) (by kernel_rfl) (fun _ _ _ h => h) (Or.inl ⟨by kernel_rfl, fun w hSw => by first | (go_simp; done) | (dsimp only at hSw; obtain ⟨hS0, hS1, hS2, hS3⟩ := hSw; go_simp; done) | rfl⟩) (by assumption) ?_
          simp only [Act.put, List.getElem_toArray, List.getElem_cons_succ, List.getElem_cons_zero, List.setIfInBounds_toArray, List.set_cons_succ, List.set_cons_zero]
          refine wpAnyH_take (i := 2) (v := .agg #[.int .i64 c, .slice (some ⟨g, 0, none⟩) n cap]) rfl (by kernel_rfl) (by kernel_rfl) (by kernel_rfl) (fun _ _ _ h => h) (Or.inl ⟨by kernel_rfl, fun w hSw => by first | (go_simp; done) | (dsimp only at hSw; obtain ⟨hS0, hS1, hS2, hS3⟩ := hSw; go_simp; done) | rfl⟩) (by assumption) ?_
          simp only [Act.put, List.getElem_toArray, List.getElem_cons_succ, List.getElem_cons_zero, List.setIfInBounds_toArray, List.set_cons_succ, List.set_cons_zero]
          refine wpAnyH_take (i := 4) (v := .agg #[.int .i64 c, .slice (some ⟨g, 0, none⟩) n cap]) rfl (by kernel_rfl) (by kernel_rfl) (by kernel_rfl) (fun _ _ _ h => h) (Or.inl ⟨by kernel_rfl, fun w hSw => by first | (go_simp; done) | (dsimp only at hSw; obtain ⟨hS0, hS1, hS2, hS3⟩ := hSw; go_simp; done) | rfl⟩) (by assumption) ?_
          simp only [Act.put, List.getElem_toArray, List.getElem_cons_succ, List.getElem_cons_zero, List.setIfInBounds_toArray, List.set_cons_succ, List.set_cons_zero]
          refine wpAnyH_ready (rs := [3]) (by kernel_rfl) (by simp) ?_
          refine AllReadyH.cons rfl (fun K hK => ?_) AllReadyH.nil
          go_simp
          go_wp2_with (go_at_call 106; refine (HEnd.out _ ?_).mono ?_; (exact KD.drew); rintro e w7 ⟨rfl, L7⟩; have K7 : Below W.heap.size W w7 := KD.drew.trans (L7.mono KD.drew.size))
          refine hK.out _ _ ?_ (fun hHeld2 => ?_)
          · first | exact hHeld | exact HS.out _ K7 | exact HSG.out _ _ K7 G8
          clear hK K hHeld
          have hHeld := hHeld2
          clear hHeld2
          refine wpAnyH_ready (rs := [5]) (by kernel_rfl) (by simp) ?_
          refine AllReadyH.cons rfl (fun K hK => ?_) AllReadyH.nil
          rw [if_pos (by kernel_rfl)]
          refine wp_store_open _ _ _ rfl bo fn F rfl (OW.on K7) (by unfold maxLen; omega) y hyw rfl _ rfl o (HV.out _ (N.trans (K7.mono N.size))) ?_
          intro w8 O8 G8
          try simp only [Act.put, List.getElem_toArray, List.getElem_cons_succ, List.getElem_cons_zero, List.setIfInBounds_toArray, List.set_cons_succ, List.set_cons_zero]
          refine hK.out _ _ ?_ (fun hHeld2 => ?_)
          · first | exact hHeld | exact HS.out _ K7 | exact HSG.out _ _ K7 G8
          clear hK K hHeld
          have hHeld := hHeld2
          clear hHeld2
          refine wpAnyH_done (by kernel_rfl) ?_ _
          go_wp2
          refine ⟨rfl, _, results_none rfl _ _ _, ?_⟩
          exact ⟨rfl, by rw [HE.out]; exact O8, (JW.on K7).off G8 hne.symm, grown_below (N.trans (K7.mono N.size)) G8⟩


end Tf
end Go.Proofs.Ytmhongcbgokilad
