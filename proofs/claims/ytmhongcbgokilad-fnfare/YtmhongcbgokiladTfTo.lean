/- The program's search from a station to another. -/
import Derived.Test.YtmhongcbgokiladTfTake
import Derived.Test.YtmhongcbgokiladMathDij2
import Derived.Deep.LoopGhost
import Derived.WalkMore
namespace Go.Proofs.Ytmhongcbgokilad
namespace Tf
open Go.ChangeShapes Go.WideShapes Go.ChangeAt Go.RowKit
open Pk (new_below join_below cell_at heap_new frozen_at lt_of kept heap_old Drawn info_of)
set_option linter.unusedSimpArgs false
set_option linter.unusedVariables false
variable {bs : Nat}

theorem tw_low {b c B : Nat} {w w1 w2 : World} (h : Tw b c w w1) (L : Below B w1 w2) (hB : w.heap.size ≤ B) : Tw b c w w2 :=
  ⟨L.os.trans h.os, L.tape.trans h.tape, L.output.trans h.output, Nat.le_trans h.size L.size, fun i hi h1 h2 => (L.block i (by omega)).trans (h.block i hi h1 h2)⟩

/-- Where the search is: it goes on, or has found. -/
def Md (bs : Nat) (E : List Ed) (a b : Int) (bo bg gk : Nat) (w : World) (c0 : Int) (c1 : Value) : Prop :=
  (∃ F G r n, ISt E a F G r ∧ G b = none ∧ c0 = 0 ∧ c1 = .slice none 0 0 ∧ Opn bs w bo n F ∧ n ≤ 1 + 201 * r ∧ Gn w bg r G ∧ gk = (stn E a).length + 2 - r) ∨
  ∃ n m g cap, isBest E a b m ∧ (m.s.length ≤ 402 ∧ 0 ≤ m.c ∧ m.c ≤ 402000000) ∧ c0 = m.c ∧ c1 = .slice (some ⟨g, 0, none⟩) m.s.length cap ∧ Wv bs w (.agg #[.int .i64 m.c, .slice (some ⟨g, 0, none⟩) m.s.length cap]) m ∧ Opn bs w bo n (fun _ => none) ∧ gk = 1

theorem way_head {E : List Ed} {a : Int} {x : Wy} (h : isWay E a x) : ∃ r, x.s = a :: r := by
  induction h with
  | nil => exact ⟨[], rfl⟩
  | step hw he hs ih =>
    obtain ⟨r, hr⟩ := ih
    exact ⟨r ++ [_], by simp [ovr, hr]; rfl⟩

/-- A way's block is none that holds a nought at its head. -/
theorem way_apart {E : List Ed} {a : Int} (ha : 1 ≤ a) {x : Wy} (h : isWay E a x) {w : World} {g Z : Nat} (hn : 0 < x.s.length) (hc : ∀ i (h : i < x.s.length), w.cell? ⟨g, i, none⟩ = some (.int .i64 x.s[i])) (hz : w.cell? ⟨Z, 0, none⟩ = some (.int .i64 0)) : g ≠ Z := by
  intro e
  subst e
  obtain ⟨r, hr⟩ := way_head h
  have h1 := hc 0 hn
  rw [hz] at h1
  simp only [Option.some.injEq, Value.int.injEq, true_and] at h1
  have h2 : x.s[0] = a := by simp [hr]
  omega

theorem wv_apart {E : List Ed} {a : Int} (ha : 1 ≤ a) {x : Wy} (h : isWay E a x) {w w1 : World} {v : Value} {Z : Nat} (hV : Wv bs w v x) (hz : w.cell? ⟨Z, 0, none⟩ = some (.int .i64 0)) (G : w.grownBy w1 (some Z)) : Wv bs w1 v x := by
  obtain ⟨g, cap, rfl, hlt, hn, hc⟩ := hV
  have hne := way_apart ha h hn hc hz
  refine ⟨g, cap, rfl, hlt.of_block G.size (G.block g hlt.2.1 (by simpa using hne)), hn, fun i hi => ?_⟩
  rw [World.cell?_of_block (a := ⟨g, i, none⟩) (G.block g hlt.2.1 (by simpa using hne))]
  exact hc i hi

theorem wpList_clear_own {w : World} {ops : Array Oper} {rest : List Oper} {o : Oper} {a : Act} {Q : Exit → Act → World → Prop} (hg : o.guard = none) (m : Operand) (ho : o.op = Op.call { callee := Callee.builtin Builtin.clear, args := #[m], argTypes := #[139] }) (b n : Nat) (D : DataW Value) (hm : a.eval m = .map (some b)) (h1 : w.ownsMap Try.prog 3 hld b n D)
    (h : ∀ w', Opn bs w' b n (fun _ => none) → w.grownBy w' (some b) → wpList Try.prog ops Q rest (a.put o.dst (.tuple #[])) w') : wpList Try.prog ops Q (o :: rest) a w := by
  refine wpList_plain hg fun K hK => ?_
  obtain ⟨es, c, hb, hF, hn, rfl⟩ := h1
  have hst := ChangeMaps.heap_setBlock_same hb (.map #[] c)
  unfold Oper.wp
  simp [execOp, ho, resolve, invoke, builtin, hm, Builtin.clear_, run_underlying Try.underlying139, MapKept.run_getObj_map hb, MapKept.run_setObj_map _ hb, Result.andThen]
  exact hK _ _ (h (ChangeMaps.setBlock w b (.map #[] c)) ⟨.map [], ⟨#[], c, hst, ⟨by simp, MapKept.stamped_empty c, by simp⟩, by simp, rfl⟩, fun k hk => ⟨fun _ => rfl, fun q hq => by cases hq⟩⟩ ⟨rfl, rfl, rfl, by simp [ChangeMaps.setBlock], fun i _ hi => ChangeMaps.heap_setBlock_other hb _ (fun e => hi (by rw [e]))⟩)

theorem opn_set {w : World} {b n B : Nat} {F : Int → Option Wy} {w1 : World} (h : Opn bs w b n F) (L : Below B w w1) (hb : b < B) (hF : ∀ k o, F k = some o → False) : Opn bs w1 b n F := by
  obtain ⟨D, h1, h2⟩ := h
  exact ⟨D, own_on h1 L hb, fun k hk => ⟨(h2 k hk).1, fun o ho => (hF k o ho).elim⟩⟩

set_option maxHeartbeats 8000000 in
set_option maxRecDepth 100000 in
theorem to_val (ea : Option Addr) (E : List Ed) (ce bo bg : Nat) (a b : Int) (w0 w : World) (IE : Edges w0 ea E) (L0 : Below w0.heap.size w0 w) (hb0 : w0.heap.size ≤ bo) (hg0 : w0.heap.size ≤ bg) (hEl : E.length ≤ 200) (hE : ∀ e ∈ E, edB e = true)
    (ha : 1 ≤ a ∧ a ≤ 9999) (I : Opn bs w bo 1 (F0 a)) (J : Gn w bg 0 (fun _ => none)) (hne : bo ≠ bg) (hbs : bs ≤ w.heap.size) :
    Calls Try.prog 93 #[.agg #[.slice ea E.length ce, .map (some bo), .map (some bg)], .int .i64 b] w fun e w' =>
      ((∃ m g cap, isBest E a b m ∧ (m.s.length ≤ 402 ∧ 0 ≤ m.c ∧ m.c ≤ 402000000) ∧ e = .returned (.tuple #[.agg #[.int .i64 m.c, .slice (some ⟨g, 0, none⟩) m.s.length cap], .bool true]) ∧ Wv bs w' (.agg #[.int .i64 m.c, .slice (some ⟨g, 0, none⟩) m.s.length cap]) m) ∨
       ((∀ x, isWay E a x → endW x ≠ b) ∧ e = .returned (.tuple #[.agg #[.int .i64 0, .slice none 0 0], .bool false]))) ∧ Tw bo bg w w' := by
  have lbo := I.lt
  have lbg := J.lt
  have HIE : Hid (∀ w', Tw bo bg w w' → Below w0.heap.size w0 w') := fun w' L => L0.trans (L.below hb0 hg0 L0.size)
  have HE : Hid (∀ e ∈ E, edB e = true) := hE
  have HI0 : Hid (Edges w0 ea E ∧ w0.heap.size ≤ bo ∧ w0.heap.size ≤ bg) := ⟨IE, hb0, hg0⟩
  have N1 := new_below w (.cells #[.slice ea E.length ce, .map (some bo), .map (some bg)] 141)
  have m1 := heap_new w (.cells #[.slice ea E.length ce, .map (some bo), .map (some bg)] 141)
  have e1 : (w.alloc (.cells #[.slice ea E.length ce, .map (some bo), .map (some bg)] 141)).heap.size = w.heap.size + 1 := Array.size_push ..
  generalize hW1 : w.alloc (.cells #[.slice ea E.length ce, .map (some bo), .map (some bg)] 141) = W1 at *
  have N2 := new_below W1 (.cells #[.int .i64 0, .slice none 0 0] 103)
  have m2 := heap_new W1 (.cells #[.int .i64 0, .slice none 0 0] 103)
  have e2 : (W1.alloc (.cells #[.int .i64 0, .slice none 0 0] 103)).heap.size = w.heap.size + 1 + 1 := (Array.size_push ..).trans (congrArg (· + 1) e1)
  generalize hW2 : W1.alloc (.cells #[.int .i64 0, .slice none 0 0] 103) = W2 at *
  have N3 := new_below W2 (.cells #[.int .i64 0, .slice none 0 0] 103)
  have m3 := heap_new W2 (.cells #[.int .i64 0, .slice none 0 0] 103)
  generalize hW3 : W2.alloc (.cells #[.int .i64 0, .slice none 0 0] 103) = W at *
  rw [e1] at m2
  rw [e2] at m3
  have m1' := kept N3 (Nat.lt_of_lt_of_le (lt_of m1) N2.size) (kept N2 (lt_of m1) m1)
  have m2' := kept N3 (lt_of m2) m2
  have N := join_below (join_below N1 N2) N3
  rw [← hW2, ← hW1] at hW3
  have HM0 : Hid (Md bs E a b bo bg ((stn E a).length + 2) W 0 (.slice none 0 0)) := Or.inl ⟨F0 a, fun _ => none, 0, 1, ist_start E a ha, rfl, rfl, rfl, I.on N, by omega, J.on N, by omega⟩
  have hU : (stn E a).length ≤ 401 := by rw [stn_length]; omega
  have TN : Tw bo bg w W := Tw.of_below N
  clear m1 m2 N1 N2 N3 e1 e2 hW1 hW2 hb0 hg0 I J hE
  go_enter Try.func93, Try.ntmps93
  go_wp2
  go_step3
  go_wp2
  go_step3
  go_wp2
  clear hW3
  go_loopg [7] ((stn E a).length + 2) (fun gk _ wr => ∃ c0 c1, Tw bo bg w wr ∧ wr.heap[w.heap.size]? = some (.cells #[.slice ea E.length ce, .map (some bo), .map (some bg)] 141) ∧ wr.heap[w.heap.size + 1]? = some (.cells #[.int .i64 0, .slice none 0 0] 103) ∧ wr.heap[w.heap.size + 1 + 1]? = some (.cells #[.int .i64 c0, c1] 103) ∧ Aside (Md bs E a b bo bg gk wr c0 c1))
  case atStart => exact ⟨0, .slice none 0 0, TN, m1', m2', m3, HM0⟩
  case round =>
    obtain ⟨c0, c1, TR, t0, t1, t2, HM⟩ := hrel
    clear m1' m2' m3 HM0 TN N
    have s0 : wr.cell? ⟨w.heap.size, 0, none⟩ = some (.slice ea E.length ce) := cell_at t0 0
    have s1 : wr.cell? ⟨w.heap.size, 1, none⟩ = some (.map (some bo)) := cell_at t0 1
    have s2 : wr.cell? ⟨w.heap.size, 2, none⟩ = some (.map (some bg)) := cell_at t0 2
    have lw : w.heap.size + 1 + 1 < wr.heap.size := lt_of t2
    rcases HM.out with ⟨F, G, r, n, S, hGb, rfl, rfl, OR, hn, JR, hgk⟩ | ⟨n, m, g, cap, hbest, hbd, rfl, rfl, hWm, OR, hgk⟩
    · have hr : r ≤ 401 := by have := S.clock; omega
      have HKey : Hid (∀ k p, F k = some p → endW p = k ∧ p.s.length ≤ 1048576) := fun k p h => ⟨(S.key k p h).1, by have := (S.bd k p h).1; omega⟩
      have HS : Aside (ISt E a F G r) := S
      have HGk : Aside (gk = (stn E a).length + 2 - r ∧ G b = none) := ⟨hgk, hGb⟩
      clear S hgk HM hGb
      by_cases hAll : ∀ k, (kk k).wf = true → F k = none
      · have HNo : Hid (∀ x, isWay E a x → endW x ≠ b) := HS.out.none HE.out (fun k => by
          cases hk : F k with
          | none => rfl
          | some o =>
            obtain ⟨-, -, h1, h2⟩ := HS.out.key k o hk
            rw [hAll k (kk_wf ⟨h1, h2⟩)] at hk
            cases hk) HGk.out.2
        have HC : Hid (∀ _ : Unit, _) := fun _ => take_none ea E.length ce bo bg n F wr OR hAll
        clear hAll
        go_wp2_with fail
        refine (HC.out ()).mono ?_
        rintro e w1 ⟨rfl, L1⟩
        have NX := new_below w1 (.cells #[.int .i64 0, .slice none 0 0] 103)
        have LX : Below wr.heap.size wr (w1.alloc (.cells #[.int .i64 0, .slice none 0 0] 103)) := join_below L1 NX
        have TX : Tw bo bg w (w1.alloc (.cells #[.int .i64 0, .slice none 0 0] 103)) := TR.trans (Tw.of_below LX)
        have h1X := kept LX (lt_of t1) t1
        have h2X := kept LX (lt_of t2) t2
        clear s0 s1 s2 t0 t1 t2
        go_wp2
        generalize w1.alloc (.cells #[.int .i64 0, .slice none 0 0] 103) = X at *
        have g0 : X.cell? ⟨w.heap.size + 1 + 1, 0, none⟩ = some (.int .i64 0) := cell_at h2X 0
        have g1 : X.cell? ⟨w.heap.size + 1 + 1, 1, none⟩ = some (.slice none 0 0) := cell_at h2X 1
        have r0 : X.cell? ⟨w.heap.size + 1, 0, none⟩ = some (.int .i64 0) := cell_at h1X 0
        have r1 : X.cell? ⟨w.heap.size + 1, 1, none⟩ = some (.slice none 0 0) := cell_at h1X 1
        have f0 : X.frozen? ⟨w.heap.size + 1, 0, none⟩ = false := frozen_at h1X 0
        have f1 : X.frozen? ⟨w.heap.size + 1, 1, none⟩ = false := frozen_at h1X 1
        have q3 := nil_yes'
        have q4 := nil_no'
        have m9 := set2 h1X (.int .i64 0) (.slice none 0 0)
        have L9 : Below (w.heap.size + 1) X ((X.setCell ⟨w.heap.size + 1, 0, none⟩ (.int .i64 0)).setCell ⟨w.heap.size + 1, 1, none⟩ (.slice none 0 0)) := ((Below.refl _ _).setCell (p := ⟨w.heap.size + 1, 0, none⟩) (Nat.le_refl _) _).setCell (p := ⟨w.heap.size + 1, 1, none⟩) (Nat.le_refl _) _
        have T9 : Tw bo bg w ((X.setCell ⟨w.heap.size + 1, 0, none⟩ (.int .i64 0)).setCell ⟨w.heap.size + 1, 1, none⟩ (.slice none 0 0)) := tw_low TX L9 (by omega)
        have k0 : ((X.setCell ⟨w.heap.size + 1, 0, none⟩ (.int .i64 0)).setCell ⟨w.heap.size + 1, 1, none⟩ (.slice none 0 0)).cell? ⟨w.heap.size + 1 + 1, 0, none⟩ = some (.int .i64 0) := by rw [World.cell?_setCell_other _ _ _ _ (by simp), World.cell?_setCell_other _ _ _ _ (by simp)]; exact g0
        have k1 : ((X.setCell ⟨w.heap.size + 1, 0, none⟩ (.int .i64 0)).setCell ⟨w.heap.size + 1, 1, none⟩ (.slice none 0 0)).cell? ⟨w.heap.size + 1 + 1, 1, none⟩ = some (.slice none 0 0) := by rw [World.cell?_setCell_other _ _ _ _ (by simp), World.cell?_setCell_other _ _ _ _ (by simp)]; exact g1
        refine wp_region_held_drew (S := (fun w' => w'.cell? ⟨w.heap.size + 1 + 1, 0, none⟩ = some (.int .i64 0) ∧ w'.cell? ⟨w.heap.size + 1 + 1, 1, none⟩ = some (.slice none 0 0))) (by kernel_rfl) ?_ (fun hHeld => ?_)
        · exact ⟨g0, g1⟩
        refine wpAnyH_take (i := 0) (v := .agg #[.int .i64 0, .slice none 0 0]) rfl (by kernel_rfl) (by kernel_rfl) (by kernel_rfl) (fun _ _ _ h => h) (Or.inl ⟨by kernel_rfl, fun w hSw => by first | (go_simp; done) | (dsimp only at hSw; obtain ⟨hS0, hS1⟩ := hSw; go_simp; done) | rfl⟩) (by assumption) ?_
        simp only [Act.put, List.getElem_toArray, List.getElem_cons_succ, List.getElem_cons_zero, List.setIfInBounds_toArray, List.set_cons_succ, List.set_cons_zero]
        refine wpAnyH_take (i := 1) (v := .pointer (some ⟨w.heap.size + 1 + 1, 1, none⟩)) rfl (by kernel_rfl) (by kernel_rfl) (by kernel_rfl) (fun _ _ _ h => h) (Or.inl ⟨by kernel_rfl, fun w hSw => by first | (go_simp; done) | (dsimp only at hSw; obtain ⟨hS0, hS1⟩ := hSw; go_simp; done) | rfl⟩) (by assumption) ?_
        simp only [Act.put, List.getElem_toArray, List.getElem_cons_succ, List.getElem_cons_zero, List.setIfInBounds_toArray, List.set_cons_succ, List.set_cons_zero]
        refine wpAnyH_take (i := 2) (v := .slice none 0 0) rfl (by kernel_rfl) (by kernel_rfl) (by kernel_rfl) (fun _ _ _ h => h) (Or.inl ⟨by kernel_rfl, fun w hSw => by first | (go_simp; done) | (dsimp only at hSw; obtain ⟨hS0, hS1⟩ := hSw; go_simp; done) | rfl⟩) (by assumption) ?_
        simp only [Act.put, List.getElem_toArray, List.getElem_cons_succ, List.getElem_cons_zero, List.setIfInBounds_toArray, List.set_cons_succ, List.set_cons_zero]
        refine wpAnyH_take (i := 3) (v := .bool false) rfl (by kernel_rfl) (by kernel_rfl) (by kernel_rfl) (fun _ _ _ h => h) (Or.inl ⟨by kernel_rfl, fun w hSw => by first | (go_simp; done) | (dsimp only at hSw; obtain ⟨hS0, hS1⟩ := hSw; go_simp; done) | rfl⟩) (by assumption) ?_
        simp only [Act.put, List.getElem_toArray, List.getElem_cons_succ, List.getElem_cons_zero, List.setIfInBounds_toArray, List.set_cons_succ, List.set_cons_zero]
        refine wpAnyH_ready (rs := [4]) (by kernel_rfl) (by simp) ?_
        refine AllReadyH.cons rfl (fun K hK => ?_) AllReadyH.nil
        go_simp
        refine hK.out _ _ ?_ (fun hHeld2 => ?_)
        · first | exact hHeld | exact ⟨k0, k1⟩
        clear hK K hHeld
        have hHeld := hHeld2
        clear hHeld2
        refine wpAnyH_ready (rs := [5]) (by kernel_rfl) (by simp) ?_
        refine AllReadyH.cons rfl (fun K hK => ?_) AllReadyH.nil
        go_simp
        refine hK.out _ _ ?_ (fun hHeld2 => ?_)
        · first | exact hHeld | exact ⟨k0, k1⟩
        clear hK K hHeld
        have hHeld := hHeld2
        clear hHeld2
        refine wpAnyH_done (by kernel_rfl) ?_ _
        clear hHeld
        have y0 : ((X.setCell ⟨w.heap.size + 1, 0, none⟩ (.int .i64 0)).setCell ⟨w.heap.size + 1, 1, none⟩ (.slice none 0 0)).cell? ⟨w.heap.size + 1, 0, none⟩ = some (.int .i64 0) := cell_at m9 0
        have y1 : ((X.setCell ⟨w.heap.size + 1, 0, none⟩ (.int .i64 0)).setCell ⟨w.heap.size + 1, 1, none⟩ (.slice none 0 0)).cell? ⟨w.heap.size + 1, 1, none⟩ = some (.slice none 0 0) := cell_at m9 1
        clear m9
        go_wp2
        try rw [Exit.noGoto_ret]
        refine bodyPost_ret (v := .tuple #[.agg #[.int .i64 0, .slice none 0 0], .bool false]) (by simp [results, Try.results93, go_sem, y0, y1]) rfl ?_
        exact ⟨Or.inr ⟨HNo.out, rfl⟩, T9.drew⟩
      · have HSome : Hid (∃ k p, (kk k).wf = true ∧ F k = some p) := by
          apply Classical.byContradiction
          intro hno
          apply hAll
          intro k hw
          cases hk : F k with
          | none => rfl
          | some p => exact (hno ⟨k, p, hw, hk⟩).elim
        have HC : Hid (∀ _ : Unit, _) := fun _ => take_some ea E.length ce bo bg n F wr OR HSome.out HKey.out
        clear hAll HSome
        go_wp2_with fail
        refine (HC.out ()).mono ?_
        rintro e w1 ⟨k, m, g, cap, hw, hFm, hmin, rfl, O1, V1, G1⟩
        have hmin' : ∀ j p, F j = some p → le m p := fun j p hj => hmin j p (kk_wf (HS.out.key j p hj).2.2) hj
        have HB : Hid (isBest E a k m) := HS.out.pop HE.out hFm hmin'
        have HNX : Hid (ISt E a (goF (setG G k m) m (setF F k none) E) (setG G k m) (r + 1)) := HS.out.next HE.out hFm hmin'
        obtain ⟨hek, -, hk1, hk2⟩ := HS.out.key k m hFm
        obtain ⟨hml, hmc0, hmc1⟩ := HS.out.bd k m hFm
        have NX := new_below w1 (.cells #[.int .i64 m.c, .slice (some ⟨g, 0, none⟩) m.s.length cap] 103)
        have mX := heap_new w1 (.cells #[.int .i64 m.c, .slice (some ⟨g, 0, none⟩) m.s.length cap] 103)
        generalize hX : w1.alloc (.cells #[.int .i64 m.c, .slice (some ⟨g, 0, none⟩) m.s.length cap] 103) = X at *
        have T1 : Tw bo bg wr X := (Tw.of_grown1 G1).trans (Tw.of_below NX)
        have TX : Tw bo bg w X := TR.trans T1
        have h0X := T1.kept (by omega) (by omega) t0
        have h1X := T1.kept (by omega) (by omega) t1
        have h2X := T1.kept (by omega) (by omega) t2
        have OX := O1.on NX
        have VX := V1.on NX
        have JX := (JR.off G1 hne.symm).on NX
        have x0 : X.cell? ⟨w1.heap.size, 0, none⟩ = some (.int .i64 m.c) := cell_at mX 0
        have x1 : X.cell? ⟨w1.heap.size, 1, none⟩ = some (.slice (some ⟨g, 0, none⟩) m.s.length cap) := cell_at mX 1
        have HEnd : Hid (∀ _ : Unit, _) := fun _ => end_val _ m X (by omega) VX
        rw [hek] at HEnd
        clear s0 s1 s2 t0 t1 t2 hmin hmin' HC G1 T1 O1 V1 OR JR HKey
        go_wp2_with fail
        clear hX
        refine (HEnd.out ()).mono ?_
        rintro e w2 ⟨rfl, L2⟩
        have m2X := kept L2 (lt_of mX) mX
        have x0 : w2.cell? ⟨w1.heap.size, 0, none⟩ = some (.int .i64 m.c) := cell_at m2X 0
        have x1 : w2.cell? ⟨w1.heap.size, 1, none⟩ = some (.slice (some ⟨g, 0, none⟩) m.s.length cap) := cell_at m2X 1
        have T2 : Tw bo bg w w2 := TX.trans (Tw.of_below L2)
        have h02 := kept L2 (lt_of h0X) h0X
        have h12 := kept L2 (lt_of h1X) h1X
        have h22 := kept L2 (lt_of h2X) h2X
        have O2 := OX.on L2
        have V2 := VX.on L2
        have J2 := JX.on L2
        have s0 : w2.cell? ⟨w.heap.size, 0, none⟩ = some (.slice ea E.length ce) := cell_at h02 0
        have s1 : w2.cell? ⟨w.heap.size, 1, none⟩ = some (.map (some bo)) := cell_at h02 1
        have s2 : w2.cell? ⟨w.heap.size, 2, none⟩ = some (.map (some bg)) := cell_at h02 2
        clear h0X h1X h2X OX VX JX TX mX m2X HEnd NX
        by_cases hkb : k = b
        · have e2 : (k == b) = true := beq_iff_eq.2 hkb
          rw [hkb] at HB
          clear hkb
          have g0 : w2.cell? ⟨w.heap.size + 1 + 1, 0, none⟩ = some (.int .i64 0) := cell_at h22 0
          have g1 : w2.cell? ⟨w.heap.size + 1 + 1, 1, none⟩ = some (.slice none 0 0) := cell_at h22 1
          have f0 : w2.frozen? ⟨w.heap.size + 1 + 1, 0, none⟩ = false := frozen_at h22 0
          have f1 : w2.frozen? ⟨w.heap.size + 1 + 1, 1, none⟩ = false := frozen_at h22 1
          have m4 := set2 h22 (.int .i64 m.c) (.slice (some ⟨g, 0, none⟩) m.s.length cap)
          have G4 := grown_set2 w2 (w.heap.size + 1 + 1) (.int .i64 m.c) (.slice (some ⟨g, 0, none⟩) m.s.length cap)
          have T4 : Tw bo bg w ((w2.setCell ⟨w.heap.size + 1 + 1, 0, none⟩ (.int .i64 m.c)).setCell ⟨w.heap.size + 1 + 1, 1, none⟩ (.slice (some ⟨g, 0, none⟩) m.s.length cap)) :=
            tw_low T2 (((Below.refl (w.heap.size + 1 + 1) w2).setCell (p := ⟨w.heap.size + 1 + 1, 0, none⟩) (Nat.le_refl _) _).setCell (p := ⟨w.heap.size + 1 + 1, 1, none⟩) (Nat.le_refl _) _) (by omega)
          have h04 := (G4.block w.heap.size (lt_of h02) (by simp; omega)).trans h02
          have h14 := (G4.block (w.heap.size + 1) (lt_of h12) (by simp)).trans h12
          obtain ⟨D4, hD4, hF4⟩ := O2
          have hD5 := hD4.kept G4 (by simp; omega)
          have HV5 : Hid (Wv bs _ _ _) := wv_apart ha.1 HB.out.1 V2 g0 G4
          have mbo5 : ∃ es c, ((w2.setCell ⟨w.heap.size + 1 + 1, 0, none⟩ (.int .i64 m.c)).setCell ⟨w.heap.size + 1 + 1, 1, none⟩ (.slice (some ⟨g, 0, none⟩) m.s.length cap)).heap[bo]? = some (.map es c) := by
            obtain ⟨es, c, h, -⟩ := hD5
            exact ⟨es, c, h⟩
          have s14 : ((w2.setCell ⟨w.heap.size + 1 + 1, 0, none⟩ (.int .i64 m.c)).setCell ⟨w.heap.size + 1 + 1, 1, none⟩ (.slice (some ⟨g, 0, none⟩) m.s.length cap)).cell? ⟨w.heap.size, 1, none⟩ = some (.map (some bo)) := cell_at h04 1
          generalize hw4 : (w2.setCell ⟨w.heap.size + 1 + 1, 0, none⟩ (.int .i64 m.c)).setCell ⟨w.heap.size + 1 + 1, 1, none⟩ (.slice (some ⟨g, 0, none⟩) m.s.length cap) = w4 at *
          clear hF4 hD4 V2
          go_wp2_with (first | (refine wpList_clear_own (bs := bs) rfl _ rfl bo n D4 rfl hD5 ?_; intro w5 O5 G5) | go_in)
          have T5 : Tw bo bg w w5 := T4.trans (Tw.of_grown1 G5)
          have h05 := (G5.block _ (lt_of h04) (by simp; omega)).trans h04
          have h15 := (G5.block _ (lt_of h14) (by simp; omega)).trans h14
          have h25 := (G5.block _ (lt_of m4) (by simp; omega)).trans m4
          have V5 : Wv bs w5 (.agg #[.int .i64 m.c, .slice (some ⟨g, 0, none⟩) m.s.length cap]) m := by
            obtain ⟨es, c, h⟩ := mbo5
            exact HV5.out.off h G5
          have HM5 : Aside (Md bs E a b bo bg 1 w5 m.c (.slice (some ⟨g, 0, none⟩) m.s.length cap)) := Or.inr ⟨n, m, g, cap, HB.out, ⟨by omega, hmc0, by omega⟩, rfl, rfl, V5, O5, rfl⟩
          have hg5 := HGk.out.1
          have hck := HS.out.clock
          clear hw4 s0 s1 s2 s14 g0 g1 f0 f1 x0 x1
          go_wp2
          go_roundg 1
          case measure => omega
          case rel => exact ⟨m.c, _, T5, h05, h15, h25, HM5⟩
        · have e2 : (k == b) = false := beq_eq_false_iff_ne.2 hkb
          have HG : Hid (∀ _ : Unit, _) := fun _ => goOn_val ea E ce bo bg n r (setF F k none) G _ m w0 w2 HI0.out.1 (HIE.out w2 T2) HI0.out.2.1 HI0.out.2.2 hEl HE.out O2 J2 hne V2 (by rw [hek]; omega) (by omega) hmc0 (by omega) (fun j p hj => by
            unfold setF at hj
            split at hj
            · cases hj
            · have := (HS.out.bd j p hj).1; omega) (by omega) (by omega) (Nat.le_trans hbs T2.size)
          rw [hek] at HG
          have hGb2 : setG G k m b = none := by rw [setG_other G m (fun h => hkb h.symm)]; exact HGk.out.2
          clear hkb
          go_wp2_with fail
          refine (HG.out ()).mono ?_
          rintro e w3 ⟨rfl, O3, J3, T3⟩
          have T5 : Tw bo bg w w3 := T2.trans T3
          have h03 := T3.kept (by omega) (by omega) h02
          have h13 := T3.kept (by omega) (by omega) h12
          have h23 := T3.kept (by omega) (by omega) h22
          have hck := HNX.out.clock
          have HM3 : Aside (Md bs E a b bo bg ((stn E a).length + 2 - (r + 1)) w3 0 (.slice none 0 0)) := Or.inl ⟨_, _, r + 1, n + E.length, HNX.out, hGb2, rfl, rfl, O3, by omega, J3, rfl⟩
          have hg5 := HGk.out.1
          clear s0 s1 s2 x0 x1 HG
          go_wp2
          go_roundg ((stn E a).length + 2 - (r + 1))
          case measure => omega
          case rel => exact ⟨0, _, T5, h03, h13, h23, HM3⟩
    · have HB : Hid (isBest E a b m) := hbest
      have HBD : Hid (m.s.length ≤ 402 ∧ 0 ≤ m.c ∧ m.c ≤ 402000000) := hbd
      have HC : Hid (∀ _ : Unit, _) := fun _ => take_none ea E.length ce bo bg n (fun _ => none) wr OR (fun _ _ => rfl)
      clear HM hgk hbest hbd
      go_wp2_with fail
      refine (HC.out ()).mono ?_
      rintro e w1 ⟨rfl, L1⟩
      have NX := new_below w1 (.cells #[.int .i64 0, .slice none 0 0] 103)
      have LX : Below wr.heap.size wr (w1.alloc (.cells #[.int .i64 0, .slice none 0 0] 103)) := join_below L1 NX
      have TX : Tw bo bg w (w1.alloc (.cells #[.int .i64 0, .slice none 0 0] 103)) := TR.trans (Tw.of_below LX)
      have h1X := kept LX (lt_of t1) t1
      have h2X := kept LX (lt_of t2) t2
      have VX := hWm.on LX
      clear s0 s1 s2 t0 t1 t2
      go_wp2
      generalize w1.alloc (.cells #[.int .i64 0, .slice none 0 0] 103) = X at *
      have HW9 : Hid (Wv bs _ _ _) := wv_apart ha.1 HB.out.1 VX (cell_at h1X 0) (grown_set2 X (w.heap.size + 1) (.int .i64 m.c) (.slice (some ⟨g, 0, none⟩) m.s.length cap))
      have g0 : X.cell? ⟨w.heap.size + 1 + 1, 0, none⟩ = some (.int .i64 m.c) := cell_at h2X 0
      have g1 : X.cell? ⟨w.heap.size + 1 + 1, 1, none⟩ = some (.slice (some ⟨g, 0, none⟩) m.s.length cap) := cell_at h2X 1
      have r0 : X.cell? ⟨w.heap.size + 1, 0, none⟩ = some (.int .i64 0) := cell_at h1X 0
      have r1 : X.cell? ⟨w.heap.size + 1, 1, none⟩ = some (.slice none 0 0) := cell_at h1X 1
      have f0 : X.frozen? ⟨w.heap.size + 1, 0, none⟩ = false := frozen_at h1X 0
      have f1 : X.frozen? ⟨w.heap.size + 1, 1, none⟩ = false := frozen_at h1X 1
      have q3 := nil_yes'
      have q4 := nil_no'
      have m9 := set2 h1X (.int .i64 m.c) (.slice (some ⟨g, 0, none⟩) m.s.length cap)
      have L9 : Below (w.heap.size + 1) X ((X.setCell ⟨w.heap.size + 1, 0, none⟩ (.int .i64 m.c)).setCell ⟨w.heap.size + 1, 1, none⟩ (.slice (some ⟨g, 0, none⟩) m.s.length cap)) := ((Below.refl _ _).setCell (p := ⟨w.heap.size + 1, 0, none⟩) (Nat.le_refl _) _).setCell (p := ⟨w.heap.size + 1, 1, none⟩) (Nat.le_refl _) _
      have T9 : Tw bo bg w ((X.setCell ⟨w.heap.size + 1, 0, none⟩ (.int .i64 m.c)).setCell ⟨w.heap.size + 1, 1, none⟩ (.slice (some ⟨g, 0, none⟩) m.s.length cap)) := tw_low TX L9 (by omega)
      have k0 : ((X.setCell ⟨w.heap.size + 1, 0, none⟩ (.int .i64 m.c)).setCell ⟨w.heap.size + 1, 1, none⟩ (.slice (some ⟨g, 0, none⟩) m.s.length cap)).cell? ⟨w.heap.size + 1 + 1, 0, none⟩ = some (.int .i64 m.c) := by rw [World.cell?_setCell_other _ _ _ _ (by simp), World.cell?_setCell_other _ _ _ _ (by simp)]; exact g0
      have k1 : ((X.setCell ⟨w.heap.size + 1, 0, none⟩ (.int .i64 m.c)).setCell ⟨w.heap.size + 1, 1, none⟩ (.slice (some ⟨g, 0, none⟩) m.s.length cap)).cell? ⟨w.heap.size + 1 + 1, 1, none⟩ = some (.slice (some ⟨g, 0, none⟩) m.s.length cap) := by rw [World.cell?_setCell_other _ _ _ _ (by simp), World.cell?_setCell_other _ _ _ _ (by simp)]; exact g1
      refine wp_region_held_drew (S := (fun w' => w'.cell? ⟨w.heap.size + 1 + 1, 0, none⟩ = some (.int .i64 m.c) ∧ w'.cell? ⟨w.heap.size + 1 + 1, 1, none⟩ = some (.slice (some ⟨g, 0, none⟩) m.s.length cap))) (by kernel_rfl) ?_ (fun hHeld => ?_)
      · exact ⟨g0, g1⟩
      refine wpAnyH_take (i := 0) (v := .agg #[.int .i64 m.c, .slice (some ⟨g, 0, none⟩) m.s.length cap]) rfl (by kernel_rfl) (by kernel_rfl) (by kernel_rfl) (fun _ _ _ h => h) (Or.inl ⟨by kernel_rfl, fun w hSw => by first | (go_simp; done) | (dsimp only at hSw; obtain ⟨hS0, hS1⟩ := hSw; go_simp; done) | rfl⟩) (by assumption) ?_
      simp only [Act.put, List.getElem_toArray, List.getElem_cons_succ, List.getElem_cons_zero, List.setIfInBounds_toArray, List.set_cons_succ, List.set_cons_zero]
      refine wpAnyH_take (i := 1) (v := .pointer (some ⟨w.heap.size + 1 + 1, 1, none⟩)) rfl (by kernel_rfl) (by kernel_rfl) (by kernel_rfl) (fun _ _ _ h => h) (Or.inl ⟨by kernel_rfl, fun w hSw => by first | (go_simp; done) | (dsimp only at hSw; obtain ⟨hS0, hS1⟩ := hSw; go_simp; done) | rfl⟩) (by assumption) ?_
      simp only [Act.put, List.getElem_toArray, List.getElem_cons_succ, List.getElem_cons_zero, List.setIfInBounds_toArray, List.set_cons_succ, List.set_cons_zero]
      refine wpAnyH_take (i := 2) (v := .slice (some ⟨g, 0, none⟩) m.s.length cap) rfl (by kernel_rfl) (by kernel_rfl) (by kernel_rfl) (fun _ _ _ h => h) (Or.inl ⟨by kernel_rfl, fun w hSw => by first | (go_simp; done) | (dsimp only at hSw; obtain ⟨hS0, hS1⟩ := hSw; go_simp; done) | rfl⟩) (by assumption) ?_
      simp only [Act.put, List.getElem_toArray, List.getElem_cons_succ, List.getElem_cons_zero, List.setIfInBounds_toArray, List.set_cons_succ, List.set_cons_zero]
      refine wpAnyH_take (i := 3) (v := .bool true) rfl (by kernel_rfl) (by kernel_rfl) (by kernel_rfl) (fun _ _ _ h => h) (Or.inl ⟨by kernel_rfl, fun w hSw => by first | (go_simp; done) | (dsimp only at hSw; obtain ⟨hS0, hS1⟩ := hSw; go_simp; done) | rfl⟩) (by assumption) ?_
      simp only [Act.put, List.getElem_toArray, List.getElem_cons_succ, List.getElem_cons_zero, List.setIfInBounds_toArray, List.set_cons_succ, List.set_cons_zero]
      refine wpAnyH_ready (rs := [4]) (by kernel_rfl) (by simp) ?_
      refine AllReadyH.cons rfl (fun K hK => ?_) AllReadyH.nil
      go_simp
      refine hK.out _ _ ?_ (fun hHeld2 => ?_)
      · first | exact hHeld | exact ⟨k0, k1⟩
      clear hK K hHeld
      have hHeld := hHeld2
      clear hHeld2
      refine wpAnyH_ready (rs := [5]) (by kernel_rfl) (by simp) ?_
      refine AllReadyH.cons rfl (fun K hK => ?_) AllReadyH.nil
      go_simp
      refine hK.out _ _ ?_ (fun hHeld2 => ?_)
      · first | exact hHeld | exact ⟨k0, k1⟩
      clear hK K hHeld
      have hHeld := hHeld2
      clear hHeld2
      refine wpAnyH_done (by kernel_rfl) ?_ _
      clear hHeld
      have y0 : ((X.setCell ⟨w.heap.size + 1, 0, none⟩ (.int .i64 m.c)).setCell ⟨w.heap.size + 1, 1, none⟩ (.slice (some ⟨g, 0, none⟩) m.s.length cap)).cell? ⟨w.heap.size + 1, 0, none⟩ = some (.int .i64 m.c) := cell_at m9 0
      have y1 : ((X.setCell ⟨w.heap.size + 1, 0, none⟩ (.int .i64 m.c)).setCell ⟨w.heap.size + 1, 1, none⟩ (.slice (some ⟨g, 0, none⟩) m.s.length cap)).cell? ⟨w.heap.size + 1, 1, none⟩ = some (.slice (some ⟨g, 0, none⟩) m.s.length cap) := cell_at m9 1
      clear m9
      go_wp2
      try rw [Exit.noGoto_ret]
      refine bodyPost_ret (v := .tuple #[.agg #[.int .i64 m.c, .slice (some ⟨g, 0, none⟩) m.s.length cap], .bool true]) (by simp [results, Try.results93, go_sem, y0, y1]) rfl ?_
      exact ⟨Or.inl ⟨m, g, cap, HB.out, HBD.out, rfl, HW9.out.on ((Below.refl _ _).drew)⟩, T9.drew⟩

end Tf
end Go.Proofs.Ytmhongcbgokilad
