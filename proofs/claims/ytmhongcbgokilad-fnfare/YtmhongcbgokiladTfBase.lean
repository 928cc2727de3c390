/- The program's cheapest way between two stations. -/
import Derived.Test.YtmhongcbgokiladTfTo
import Derived.Test.YtmhongcbgokiladMathBase
namespace Go.Proofs.Ytmhongcbgokilad
namespace Tf
open Go.ChangeShapes Go.WideShapes Go.ChangeAt Go.RowKit
open Pk (new_below join_below cell_at heap_new frozen_at lt_of kept heap_old Drawn info_of)
set_option linter.unusedSimpArgs false
set_option linter.unusedVariables false
variable {bs : Nat}

theorem wpList_insert_open {w : World} {ops : Array Oper} {rest : List Oper} {o : Oper} {a : Act} {Q : Exit → Act → World → Prop} (hg : o.guard = none) (m x v : Operand) (ho : o.op = .insert 139 m x v) (b n : Nat) (F : Int → Option Wy) (hm : a.eval m = .map (some b)) (I : Opn bs w b n F) (hn : n < maxLen) (k : Int) (hw : (kk k).wf = true) (hx : a.eval x = .int .i64 k) (u : Value) (hv : a.eval v = u) (p : Wy) (hu : Wv bs w u p)
    (h : ∀ w', Opn bs w' b (n + 1) (setF F k (some p)) → w.grownBy w' (some b) → wpList Try.prog ops Q rest (a.put o.dst undef) w') : wpList Try.prog ops Q (o :: rest) a w := by
  refine wpList_plain hg fun K hK => ?_
  obtain ⟨D, h1, h2⟩ := I
  obtain ⟨w', hrun, r1, r2⟩ := h1.update klaw Try.underlying139 hn (kk_of hw) (val := u) (d := .held u) (ps := []) rfl
  unfold Oper.wp
  simp [execOp, ho, hm, hx, hv, hrun, Result.andThen]
  have hmap := h1.isMap
  obtain ⟨es, c, hb, -⟩ := h1
  refine hK _ _ (h w' ⟨_, r1, fun j hj => ?_⟩ r2)
  by_cases e : j = k
  · subst e
    refine ⟨fun h => by simp [setF] at h, fun q hq => ?_⟩
    simp [setF] at hq
    subst hq
    exact ⟨Maps.has_put_same hmap (kk_lit hj) _, u, fun z => Maps.atKey_put_same hmap (kk_lit hj) _ z, hu.off hb r2⟩
  · simp only [setF, if_neg e]
    rw [Maps.has_put_other (kk_ne e)]
    refine ⟨(h2 j hj).1, fun q hq => ?_⟩
    obtain ⟨h3, v', h4, h5⟩ := (h2 j hj).2 q hq
    exact ⟨h3, v', fun z => by rw [Maps.atKey_put_other (kk_ne e)]; exact h4 z, h5.off hb r2⟩

theorem Opn.far {w w1 : World} {b n Z : Nat} {F : Int → Option Wy} (h : Opn bs w b n F) (G : w.grownBy w1 (some Z)) (hz : ∀ z, w.cell? ⟨Z, 0, none⟩ ≠ some (.int .i64 z)) (hb : b ≠ Z) : Opn bs w1 b n F := by
  obtain ⟨D, h1, h2⟩ := h
  refine ⟨D, h1.kept G (by simpa using hb), fun k hk => ⟨(h2 k hk).1, fun o ho => ⟨((h2 k hk).2 o ho).1, ?_⟩⟩⟩
  obtain ⟨v, h3, g, cap, rfl, hlt, hn, hc⟩ := ((h2 k hk).2 o ho).2
  have hne : g ≠ Z := by
    intro e
    subst e
    exact hz _ (hc 0 hn)
  refine ⟨_, h3, g, cap, rfl, hlt.of_block G.size (G.block g hlt.2.1 (by simpa using hne)), hn, fun i hi => ?_⟩
  rw [World.cell?_of_block (a := ⟨g, i, none⟩) (G.block g hlt.2.1 (by simpa using hne))]
  exact hc i hi

theorem opn_made (w : World) : Opn bs (w.alloc (.map #[] 0)) w.heap.size 0 (fun _ => none) := ⟨.map [], World.ownsMap_made w _ _ _, fun k hk => ⟨fun _ => rfl, fun o ho => by cases ho⟩⟩
theorem gn_made (w : World) : Gn (w.alloc (.map #[] 0)) w.heap.size 0 (fun _ => none) := ⟨.map [], World.ownsMap_made w _ _ _, fun k hk => rfl⟩

set_option maxHeartbeats 2000000 in
set_option maxRecDepth 100000 in
theorem walkFrom_val (ea : Option Addr) (n ce : Nat) (a : Int) (w : World) (ha : 1 ≤ a ∧ a ≤ 9999) :
    Calls Try.prog 92 #[.slice ea n ce, .int .i64 a] w fun e w' => ∃ bo bg, e = .returned (.agg #[.slice ea n ce, .map (some bo), .map (some bg)]) ∧ w.heap.size ≤ bo ∧ w.heap.size ≤ bg ∧ bo ≠ bg ∧ Opn w.heap.size w' bo 1 (F0 a) ∧ Gn w' bg 0 (fun _ => none) ∧ Below w.heap.size w w' := by
  have hmm := @run_makeMap Try.prog
  have haw := kk_wf ha
  have N0 := new_below w (.cells #[.slice none 0 0, .map none, .map none] 141)
  have m0 := heap_new w (.cells #[.slice none 0 0, .map none, .map none] 141)
  have e0 : (w.alloc (.cells #[.slice none 0 0, .map none, .map none] 141)).heap.size = w.heap.size + 1 := Array.size_push ..
  generalize hA : w.alloc (.cells #[.slice none 0 0, .map none, .map none] 141) = A0 at *
  have N1 := new_below A0 (.map #[] 0)
  have O1 := opn_made (bs := w.heap.size) A0
  have e1 : (A0.alloc (.map #[] 0)).heap.size = A0.heap.size + 1 := Array.size_push ..
  generalize hB : A0.alloc (.map #[] 0) = A1 at *
  have N2 := new_below A1 (.cells #[.int .i64 a] 3)
  have m2 := heap_new A1 (.cells #[.int .i64 a] 3)
  generalize hC : A1.alloc (.cells #[.int .i64 a] 3) = A2 at *
  have O2 := O1.on N2
  rw [e0] at O2
  rw [e1, e0] at m2
  have V2 : Wv w.heap.size A2 (.agg #[.int .i64 0, .slice (some ⟨w.heap.size + 1 + 1, 0, none⟩) 1 1]) ⟨0, [a]⟩ := ⟨w.heap.size + 1 + 1, 1, rfl, ⟨by omega, lt_of m2, fun i => frozen_at m2 i⟩, by simp, fun i hi => by
    have : i = 0 := by simp at hi; omega
    subst this
    exact cell_at m2 0⟩
  have m02 := kept N2 (Nat.lt_of_lt_of_le (lt_of m0) N1.size) (kept N1 (lt_of m0) m0)
  have NA := join_below (join_below N0 N1) N2
  rw [← hA] at hB
  rw [← hB] at hC
  clear hA hB N0 N1 N2 e1 O1 m0
  go_enter Try.func92, Try.ntmps92
  go_wp2_with (first | (refine wpList_insert_open rfl _ _ _ rfl (w.heap.size + 1) 0 (fun _ => none) rfl O2 (by unfold maxLen; omega) a haw rfl _ rfl ⟨0, [a]⟩ V2 ?_; intro w3 O3 G3; have m3 := (G3.block _ (lt_of m02) (by simp)).trans m02; have N4 := new_below w3 (.map #[] 0); have m4 := kept N4 (lt_of m3) m3; have J4 := gn_made w3; have O4 := O3.on N4; have L3 := lt_of m3; have H3 : Hid (w.heap.size + 1 < w3.heap.size) := O3.lt; generalize hX4 : w3.alloc (.map #[] 0) = X4 at *; have c0 : X4.cell? ⟨w.heap.size, 0, none⟩ = some (.slice none 0 0) := cell_at m4 0; have c1 : X4.cell? ⟨w.heap.size, 1, none⟩ = some (.map none) := cell_at m4 1; have c2 : X4.cell? ⟨w.heap.size, 2, none⟩ = some (.map none) := cell_at m4 2; have f0 : X4.frozen? ⟨w.heap.size, 0, none⟩ = false := frozen_at m4 0; have f1 : X4.frozen? ⟨w.heap.size, 1, none⟩ = false := frozen_at m4 1; have f2 : X4.frozen? ⟨w.heap.size, 2, none⟩ = false := frozen_at m4 2) | go_in)
  have G5 : X4.grownBy (((X4.setCell ⟨w.heap.size, 0, none⟩ (.slice ea n ce)).setCell ⟨w.heap.size, 1, none⟩ (.map (some (w.heap.size + 1)))).setCell ⟨w.heap.size, 2, none⟩ (.map (some w3.heap.size))) (some w.heap.size) := by
    have L := (((Below.refl 0 X4).setCell (p := ⟨w.heap.size, 0, none⟩) (Nat.zero_le _) (.slice ea n ce)).setCell (p := ⟨w.heap.size, 1, none⟩) (Nat.zero_le _) (.map (some (w.heap.size + 1)))).setCell (p := ⟨w.heap.size, 2, none⟩) (Nat.zero_le _) (.map (some w3.heap.size))
    exact ⟨L.os, L.tape, L.output, L.size, fun i hi hne => by
      have hib : i ≠ w.heap.size := by simpa using hne
      rw [Below.heap_setCell _ ⟨w.heap.size, 2, none⟩ _ i hib, Below.heap_setCell _ ⟨w.heap.size, 1, none⟩ _ i hib, Below.heap_setCell _ ⟨w.heap.size, 0, none⟩ _ i hib]⟩
  have HO : Hid (Opn w.heap.size _ _ _ _) := O4.far G5 (fun z h => by rw [c0] at h; cases h) (by omega)
  have HJ : Hid (Gn _ _ _ _) := J4.off G5 (by omega)
  have LF : Below w.heap.size w (((X4.setCell ⟨w.heap.size, 0, none⟩ (.slice ea n ce)).setCell ⟨w.heap.size, 1, none⟩ (.map (some (w.heap.size + 1)))).setCell ⟨w.heap.size, 2, none⟩ (.map (some w3.heap.size))) := by
    have K4 : Below w.heap.size w X4 := (NA.grown G3 NA.size (fun k hk => by cases hk; exact Nat.le_succ _)).trans (N4.mono (by omega))
    exact ((K4.setCell (p := ⟨w.heap.size, 0, none⟩) (Nat.le_refl _) _).setCell (p := ⟨w.heap.size, 1, none⟩) (Nat.le_refl _) _).setCell (p := ⟨w.heap.size, 2, none⟩) (Nat.le_refl _) _
  have hne3 : w.heap.size + 1 ≠ w3.heap.size := by have := H3.out; omega
  clear hX4
  go_wp2
  refine bodyPost_ret (v := .agg #[.slice ea n ce, .map (some (w.heap.size + 1)), .map (some w3.heap.size)]) (by simp [results, Try.results92, go_sem, c0, c1, c2]) rfl ?_
  exact ⟨_, _, rfl, Nat.le_succ _, Nat.le_of_lt L3, hne3, HO.out, HJ.out, LF⟩

def rV (x : Option Wy) (g cap : Nat) : Value := match x with
  | some m => .tuple #[.agg #[.int .i64 m.c, .slice (some ⟨g, 0, none⟩) m.s.length cap], .bool true]
  | none => .tuple #[.agg #[.int .i64 0, .slice none 0 0], .bool false]

/-- What is known of a way that is told. -/
def Told (bs : Nat) (w : World) (g cap : Nat) (x : Option Wy) : Prop := ∀ m, x = some m → (m.s.length ≤ 402 ∧ 0 ≤ m.c ∧ m.c ≤ 402000000) ∧ Wv bs w (.agg #[.int .i64 m.c, .slice (some ⟨g, 0, none⟩) m.s.length cap]) m

set_option maxHeartbeats 2000000 in
set_option maxRecDepth 100000 in
theorem cheapest_val (ea : Option Addr) (l : List Ed) (ce : Nat) (a b : Int) (w : World) (hl : l.length ≤ maxLen) (I : Edges w ea l) :
    Calls Try.prog 67 #[.slice ea l.length ce, .int .i64 a, .int .i64 b] w fun e w' => ∃ x g cap, bw l a b x ∧ e = .returned (rV x g cap) ∧ Told w.heap.size w' g cap x ∧ Below w.heap.size w w' := by
  have HT : Hid (∀ w', Edges w' ea l → _) := fun w' h => implTariff_val ea l ce w' hl h
  have HA : Hid (∀ w, _) := fun w => stationOk_val a w
  have HB : Hid (∀ w, _) := fun w => stationOk_val b w
  have hask : askB l a b = (tarB l && (inB a 1 9999 && inB b 1 9999)) := rfl
  have N0 := new_below w (.cells #[.int .i64 0, .slice none 0 0] 103)
  have m0 := heap_new w (.cells #[.int .i64 0, .slice none 0 0] 103)
  have I0 := I.on N0
  have HNo : Hid (askB l a b = false → bw l a b none) := fun h => Or.inl h
  by_cases hq : askB l a b = true
  · have hT : tarB l = true := by rw [hask] at hq; simp at hq; exact hq.1
    have hA : inB a 1 9999 = true := by rw [hask] at hq; simp at hq; exact hq.2.1
    have hB : inB b 1 9999 = true := by rw [hask] at hq; simp at hq; exact hq.2.2
    have HTar : Hid (_) := tar_is hT
    have hab := inB_is hA
    rw [hT] at HT
    rw [hA] at HA
    rw [hB] at HB
    have HQ : Hid (askB l a b = true) := hq
    clear hask hq hT hA hB HNo
    generalize hW : w.alloc (.cells #[.int .i64 0, .slice none 0 0] 103) = W at *
    go_enter Try.func67, Try.ntmps67
    go_wp2_with fail
    clear hW
    refine (HT.out _ I0).mono ?_
    rintro e w1 ⟨rfl, L1⟩
    go_wp2_with fail
    refine (HA.out _).mono ?_
    rintro e w2 ⟨rfl, rfl⟩
    go_wp2_with fail
    refine (HB.out _).mono ?_
    rintro e w3 ⟨rfl, rfl⟩
    have I1 := I0.on L1
    have m1 := kept L1 (lt_of m0) m0
    go_wp2_with fail
    refine (walkFrom_val ea l.length ce a w3 hab).mono ?_
    rintro e w4 ⟨bo, bg, rfl, hbo, hbg, hne, O4, J4, L4⟩
    have m4 := kept L4 (lt_of m1) m1
    have HTo : Hid (∀ _ : Unit, _) := fun _ => to_val ea l ce bo bg a b w3 w4 I1 L4 hbo hbg HTar.out.1 HTar.out.2 hab O4 J4 hne L4.size
    go_wp2_with fail
    refine (HTo.out ()).mono ?_
    rintro e w5 ⟨hres, T5⟩
    have L5 : Below w3.heap.size w4 w5 := T5.below hbo hbg L4.size
    have hlt3 : w.heap.size < w3.heap.size := lt_of m1
    have m5 := kept L5 hlt3 m4
    have LW : Below w.heap.size w w5 := join_below (join_below N0 L1) (L4.trans L5)
    have c0 : w5.cell? ⟨w.heap.size, 0, none⟩ = some (.int .i64 0) := cell_at m5 0
    have c1 : w5.cell? ⟨w.heap.size, 1, none⟩ = some (.slice none 0 0) := cell_at m5 1
    have f0 : w5.frozen? ⟨w.heap.size, 0, none⟩ = false := frozen_at m5 0
    have f1 : w5.frozen? ⟨w.heap.size, 1, none⟩ = false := frozen_at m5 1
    clear HTo I1 m1 m4 L1 L4 L5 T5 O4 J4 N0 m0 I0
    rcases hres with ⟨m, g, cap, hbest, hbd, rfl, hV⟩ | ⟨hno, rfl⟩
    · have HBW : Hid (bw l a b (some m)) := ⟨HQ.out, hbest⟩
      have HTd : Hid (Told w.heap.size ((w5.setCell ⟨w.heap.size, 0, none⟩ (.int .i64 m.c)).setCell ⟨w.heap.size, 1, none⟩ (.slice (some ⟨g, 0, none⟩) m.s.length cap)) g cap (some m)) := by
        intro m' hm'
        cases hm'
        exact ⟨hbd, (wv_apart hab.1 hbest.1 hV c0 (grown_set2 w5 w.heap.size _ _)).base (Nat.le_of_lt hlt3)⟩
      clear hbest hbd hV
      go_wp2
      refine bodyPost_ret (v := rV (some m) g cap) (by simp [rV, results, Try.results67, go_sem, c0, c1]) rfl ?_
      exact ⟨some m, g, cap, HBW.out, rfl, HTd.out, (LW.setCell (p := ⟨w.heap.size, 0, none⟩) (Nat.le_refl _) _).setCell (p := ⟨w.heap.size, 1, none⟩) (Nat.le_refl _) _⟩
    · have HBW : Hid (bw l a b none) := Or.inr hno
      clear hno
      go_wp2
      refine bodyPost_ret (v := rV none 0 0) (by simp [rV, results, Try.results67, go_sem, c0, c1]) rfl ?_
      exact ⟨none, 0, 0, HBW.out, rfl, fun m h => (by cases h), (LW.setCell (p := ⟨w.heap.size, 0, none⟩) (Nat.le_refl _) _).setCell (p := ⟨w.heap.size, 1, none⟩) (Nat.le_refl _) _⟩
  · have hf : askB l a b = false := by simpa using hq
    have HBW : Hid (bw l a b none) := Or.inl hf
    have HF : Hid (tarB l = true → inB a 1 9999 = true → inB b 1 9999 = true → False) := fun h1 h2 h3 => by rw [hask, h1, h2, h3] at hf; simp at hf
    clear hask hq hf HNo
    generalize tarB l = t1 at *
    generalize inB a 1 9999 = t2 at *
    generalize inB b 1 9999 = t3 at *
    have c0 : (w.alloc (.cells #[.int .i64 0, .slice none 0 0] 103)).cell? ⟨w.heap.size, 0, none⟩ = some (.int .i64 0) := cell_at m0 0
    have c1 : (w.alloc (.cells #[.int .i64 0, .slice none 0 0] 103)).cell? ⟨w.heap.size, 1, none⟩ = some (.slice none 0 0) := cell_at m0 1
    generalize hW : w.alloc (.cells #[.int .i64 0, .slice none 0 0] 103) = W at *
    go_enter Try.func67, Try.ntmps67
    go_wp2_with fail
    clear hW
    refine (HT.out _ I0).mono ?_
    rintro e w1 ⟨rfl, L1⟩
    have m1 := kept L1 (lt_of m0) m0
    have c0 : w1.cell? ⟨w.heap.size, 0, none⟩ = some (.int .i64 0) := cell_at m1 0
    have c1 : w1.cell? ⟨w.heap.size, 1, none⟩ = some (.slice none 0 0) := cell_at m1 1
    have f0 : w1.frozen? ⟨w.heap.size, 0, none⟩ = false := frozen_at m1 0
    have f1 : w1.frozen? ⟨w.heap.size, 1, none⟩ = false := frozen_at m1 1
    have LW := join_below N0 L1
    cases t1
    · go_wp2
      refine bodyPost_ret (v := rV none 0 0) (by simp [rV, results, Try.results67, go_sem, c0, c1]) rfl ?_
      exact ⟨none, 0, 0, HBW.out, rfl, fun m h => (by cases h), (LW.setCell (p := ⟨w.heap.size, 0, none⟩) (Nat.le_refl _) _).setCell (p := ⟨w.heap.size, 1, none⟩) (Nat.le_refl _) _⟩
    go_wp2_with fail
    refine (HA.out _).mono ?_
    rintro e w2 ⟨rfl, rfl⟩
    cases t2
    · go_wp2
      refine bodyPost_ret (v := rV none 0 0) (by simp [rV, results, Try.results67, go_sem, c0, c1]) rfl ?_
      exact ⟨none, 0, 0, HBW.out, rfl, fun m h => (by cases h), (LW.setCell (p := ⟨w.heap.size, 0, none⟩) (Nat.le_refl _) _).setCell (p := ⟨w.heap.size, 1, none⟩) (Nat.le_refl _) _⟩
    go_wp2_with fail
    refine (HB.out _).mono ?_
    rintro e w3 ⟨rfl, rfl⟩
    cases t3
    · go_wp2
      refine bodyPost_ret (v := rV none 0 0) (by simp [rV, results, Try.results67, go_sem, c0, c1]) rfl ?_
      exact ⟨none, 0, 0, HBW.out, rfl, fun m h => (by cases h), (LW.setCell (p := ⟨w.heap.size, 0, none⟩) (Nat.le_refl _) _).setCell (p := ⟨w.heap.size, 1, none⟩) (Nat.le_refl _) _⟩
    · exact (HF.out (by trivial) (by trivial) (by trivial)).elim

set_option maxRecDepth 100000 in
theorem implBase_val (ea : Option Addr) (l : List Ed) (ce : Nat) (a b : Int) (w : World) (hl : l.length ≤ maxLen) (I : Edges w ea l) :
    Calls Try.prog 26 #[.slice ea l.length ce, .int .i64 a, .int .i64 b] w fun e w' => ∃ x, bw l a b x ∧ e = .returned (.tuple #[.int .i64 (cOf x), .bool x.isSome]) ∧ (0 ≤ cOf x ∧ cOf x ≤ 402000000) ∧ Below w.heap.size w w' := by
  go_enter Try.func26, Try.ntmps26
  go_wp2_with fail
  refine (cheapest_val ea l ce a b w hl I).mono ?_
  rintro e w1 ⟨x, g, cap, hx, rfl, hT, L1⟩
  cases x with
  | none =>
    have N1 := new_below w1 (.cells #[.int .i64 0, .slice none 0 0] 103)
    have HX : Hid (_) := hx
    unfold rV
    clear hx hT
    go_wp2
    refine bodyPost_ret (results_tmp2 rfl _ _ _) rfl ?_
    exact ⟨none, HX.out, rfl, ⟨by simp [cOf], by simp [cOf]⟩, join_below L1 N1⟩
  | some m =>
    have HX : Hid (_) := hx
    have HB : Hid (_) := (hT m rfl).1
    have N1 := new_below w1 (.cells #[.int .i64 m.c, .slice (some ⟨g, 0, none⟩) m.s.length cap] 103)
    unfold rV
    clear hx hT
    go_wp2
    refine bodyPost_ret (results_tmp2 rfl _ _ _) rfl ?_
    exact ⟨some m, HX.out, rfl, HB.out.2, join_below L1 N1⟩

set_option maxRecDepth 100000 in
theorem implCheap_val (ea : Option Addr) (l : List Ed) (ce : Nat) (a b : Int) (w : World) (hl : l.length ≤ maxLen) (I : Edges w ea l) :
    Calls Try.prog 28 #[.slice ea l.length ce, .int .i64 a, .int .i64 b] w fun e w' => ∃ x ad cap, bw l a b x ∧ e = .returned (.tuple #[.slice ad (sOf x).length cap, .bool x.isSome]) ∧ (sOf x).length ≤ 402 ∧ Ints w' ad (sOf x) ∧ Below w.heap.size w w' ∧ ((sOf x).length = 0 ∨ ∃ g, ad = some ⟨g, 0, none⟩ ∧ Nw w.heap.size w' g) := by
  go_enter Try.func28, Try.ntmps28
  go_wp2_with fail
  refine (cheapest_val ea l ce a b w hl I).mono ?_
  rintro e w1 ⟨x, g, cap, hx, rfl, hT, L1⟩
  cases x with
  | none =>
    have N1 := new_below w1 (.cells #[.int .i64 0, .slice none 0 0] 103)
    have HX : Hid (_) := hx
    unfold rV
    clear hx hT
    go_wp2
    refine bodyPost_ret (results_tmp2 rfl _ _ _) rfl ?_
    exact ⟨none, none, 0, HX.out, rfl, by simp [sOf], Or.inl rfl, join_below L1 N1, Or.inl rfl⟩
  | some m =>
    have HX : Hid (_) := hx
    have HB : Hid (_) := (hT m rfl).1
    have hV := (hT m rfl).2
    have N1 := new_below w1 (.cells #[.int .i64 m.c, .slice (some ⟨g, 0, none⟩) m.s.length cap] 103)
    have HNw : Hid (Nw w.heap.size (w1.alloc (.cells #[.int .i64 m.c, .slice (some ⟨g, 0, none⟩) m.s.length cap] 103)) g) := by
      obtain ⟨g', cap', hv, hlt, hn, hc⟩ := hV
      simp only [Value.agg.injEq, Array.mk.injEq, List.cons.injEq, Value.slice.injEq, Option.some.injEq, Addr.mk.injEq] at hv
      have e1 : g = g' := hv.2.1.1.1
      subst e1
      exact hlt.of_block N1.size (N1.block g hlt.2.1)
    have HI : Hid (Ints (w1.alloc (.cells #[.int .i64 m.c, .slice (some ⟨g, 0, none⟩) m.s.length cap] 103)) (some ⟨g, 0, none⟩) m.s) := by
      obtain ⟨g', cap', hv, hlt, hn, hc⟩ := hV
      simp only [Value.agg.injEq, Array.mk.injEq, List.cons.injEq, Value.slice.injEq, Option.some.injEq, Addr.mk.injEq] at hv
      have e1 : g = g' := hv.2.1.1.1
      subst e1
      exact (Wv.ints (cap := 0) hlt.2.1 hc).on N1
    unfold rV
    clear hx hT hV
    go_wp2
    refine bodyPost_ret (results_tmp2 rfl _ _ _) rfl ?_
    exact ⟨some m, _, cap, HX.out, rfl, HB.out.1, HI.out, join_below L1 N1, Or.inr ⟨g, rfl, HNw.out⟩⟩

end Tf
end Go.Proofs.Ytmhongcbgokilad
