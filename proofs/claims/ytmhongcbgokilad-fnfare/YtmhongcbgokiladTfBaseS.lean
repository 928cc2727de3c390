/- BaseCost and CheapWay of the model. -/
import Derived.Test.YtmhongcbgokiladTfFind
import Derived.Test.YtmhongcbgokiladTfOkS
import Derived.Test.YtmhongcbgokiladMathBase
namespace Go.Proofs.Ytmhongcbgokilad
namespace Tf
open Go.ChangeShapes Go.WideShapes Go.ChangeAt Go.RowKit
open Pk (new_below join_below cell_at heap_new frozen_at lt_of kept heap_old Drawn info_of)
set_option linter.unusedSimpArgs false
set_option linter.unusedVariables false

set_option maxHeartbeats 2000000 in
set_option maxRecDepth 100000 in
theorem specBase_val (ea : Option Addr) (l : List Ed) (ce : Nat) (a b : Int) (w : World) (hl : l.length ≤ maxLen) (I : Edges w ea l) :
    Calls Try.prog 27 #[.slice ea l.length ce, .int .i64 a, .int .i64 b] w fun e w' => ∃ x, bw l a b x ∧ e = .returned (.tuple #[.int .i64 (cOf x), .bool x.isSome]) ∧ (0 ≤ cOf x ∧ cOf x ≤ 402000000) ∧ Below w.heap.size w w' := by
  have HT : Hid (∀ w', Edges w' ea l → _) := fun w' h => specTariff_val ea l ce w' hl h
  have HA : Hid (∀ w, _) := fun w => station_val a w
  have HB : Hid (∀ w, _) := fun w => station_val b w
  have hask : askB l a b = (tarB l && (inB a 1 9999 && inB b 1 9999)) := rfl
  by_cases hq : askB l a b = true
  · have hT : tarB l = true := by rw [hask] at hq; simp at hq; exact hq.1
    have hA : inB a 1 9999 = true := by rw [hask] at hq; simp at hq; exact hq.2.1
    have hB : inB b 1 9999 = true := by rw [hask] at hq; simp at hq; exact hq.2.2
    have HTar : Hid (_) := tar_is hT
    rw [hT] at HT
    rw [hA] at HA
    rw [hB] at HB
    have HQ : Hid (askB l a b = true) := hq
    clear hask hq hT hA hB
    go_enter Try.func27, Try.ntmps27
    go_wp2_with fail
    refine (HT.out _ I).mono ?_
    rintro e w1 ⟨rfl, L1⟩
    go_wp2_with fail
    refine (HA.out _).mono ?_
    rintro e w2 ⟨rfl, rfl⟩
    go_wp2_with fail
    refine (HB.out _).mono ?_
    rintro e w3 ⟨rfl, rfl⟩
    have HF : Hid (∀ _ : Unit, _) := fun _ => find_val ea l ce a b w3 (I.on L1) HTar.out.1 HTar.out.2
    go_wp2_with fail
    refine (HF.out ()).mono ?_
    rintro e w5 ⟨hres, L5⟩
    have LW := join_below L1 L5
    rcases hres with ⟨m, g, cap, hbest, hbd, rfl, hV⟩ | ⟨hno, rfl⟩
    · have HBW : Hid (bw l a b (some m)) := ⟨HQ.out, hbest⟩
      have HBd : Hid (_) := hbd
      have N1 := new_below w5 (.cells #[.slice (some ⟨g, 0, none⟩) m.s.length cap, .int .i64 m.c] 109)
      have HI : Hid (Ints (w5.alloc (.cells #[.slice (some ⟨g, 0, none⟩) m.s.length cap, .int .i64 m.c] 109)) (some ⟨g, 0, none⟩) m.s) := hV.on N1
      clear hbest hbd hV
      go_wp2
      refine bodyPost_ret (results_tmp2 rfl _ _ _) rfl ?_
      exact ⟨some m, HBW.out, rfl, HBd.out.2, join_below LW N1⟩
    · have HBW : Hid (bw l a b none) := Or.inr hno
      have N1 := new_below w5 (.cells #[.slice none 0 0, .int .i64 0] 109)
      clear hno
      go_wp2
      refine bodyPost_ret (results_tmp2 rfl _ _ _) rfl ?_
      exact ⟨none, HBW.out, rfl, ⟨by simp [cOf], by simp [cOf]⟩, join_below LW N1⟩
  · have hf : askB l a b = false := by simpa using hq
    have HBW : Hid (bw l a b none) := Or.inl hf
    have HF : Hid (tarB l = true → inB a 1 9999 = true → inB b 1 9999 = true → False) := fun h1 h2 h3 => by rw [hask, h1, h2, h3] at hf; simp at hf
    clear hask hq hf
    generalize tarB l = t1 at *
    generalize inB a 1 9999 = t2 at *
    generalize inB b 1 9999 = t3 at *
    go_enter Try.func27, Try.ntmps27
    go_wp2_with fail
    refine (HT.out _ I).mono ?_
    rintro e w1 ⟨rfl, L1⟩
    cases t1
    · go_wp2
      refine bodyPost_ret (results_tmp2 rfl _ _ _) rfl ?_
      exact ⟨none, HBW.out, rfl, ⟨by simp [cOf], by simp [cOf]⟩, L1⟩
    go_wp2_with fail
    refine (HA.out _).mono ?_
    rintro e w2 ⟨rfl, rfl⟩
    cases t2
    · go_wp2
      refine bodyPost_ret (results_tmp2 rfl _ _ _) rfl ?_
      exact ⟨none, HBW.out, rfl, ⟨by simp [cOf], by simp [cOf]⟩, L1⟩
    go_wp2_with fail
    refine (HB.out _).mono ?_
    rintro e w3 ⟨rfl, rfl⟩
    cases t3
    · go_wp2
      refine bodyPost_ret (results_tmp2 rfl _ _ _) rfl ?_
      exact ⟨none, HBW.out, rfl, ⟨by simp [cOf], by simp [cOf]⟩, L1⟩
    · exact (HF.out (by trivial) (by trivial) (by trivial)).elim

set_option maxHeartbeats 2000000 in
set_option maxRecDepth 100000 in
theorem specCheap_val (ea : Option Addr) (l : List Ed) (ce : Nat) (a b : Int) (w : World) (hl : l.length ≤ maxLen) (I : Edges w ea l) :
    Calls Try.prog 29 #[.slice ea l.length ce, .int .i64 a, .int .i64 b] w fun e w' => ∃ x ad cap, bw l a b x ∧ e = .returned (.tuple #[.slice ad (sOf x).length cap, .bool x.isSome]) ∧ (sOf x).length ≤ 402 ∧ Ints w' ad (sOf x) ∧ Below w.heap.size w w' ∧ (sOf x = [] ∨ ∃ g, ad = some ⟨g, 0, none⟩) := by
  have HT : Hid (∀ w', Edges w' ea l → _) := fun w' h => specTariff_val ea l ce w' hl h
  have HA : Hid (∀ w, _) := fun w => station_val a w
  have HB : Hid (∀ w, _) := fun w => station_val b w
  have hask : askB l a b = (tarB l && (inB a 1 9999 && inB b 1 9999)) := rfl
  by_cases hq : askB l a b = true
  · have hT : tarB l = true := by rw [hask] at hq; simp at hq; exact hq.1
    have hA : inB a 1 9999 = true := by rw [hask] at hq; simp at hq; exact hq.2.1
    have hB : inB b 1 9999 = true := by rw [hask] at hq; simp at hq; exact hq.2.2
    have HTar : Hid (_) := tar_is hT
    rw [hT] at HT
    rw [hA] at HA
    rw [hB] at HB
    have HQ : Hid (askB l a b = true) := hq
    clear hask hq hT hA hB
    go_enter Try.func29, Try.ntmps29
    go_wp2_with fail
    refine (HT.out _ I).mono ?_
    rintro e w1 ⟨rfl, L1⟩
    go_wp2_with fail
    refine (HA.out _).mono ?_
    rintro e w2 ⟨rfl, rfl⟩
    go_wp2_with fail
    refine (HB.out _).mono ?_
    rintro e w3 ⟨rfl, rfl⟩
    have HF : Hid (∀ _ : Unit, _) := fun _ => find_val ea l ce a b w3 (I.on L1) HTar.out.1 HTar.out.2
    go_wp2_with fail
    refine (HF.out ()).mono ?_
    rintro e w5 ⟨hres, L5⟩
    have LW := join_below L1 L5
    rcases hres with ⟨m, g, cap, hbest, hbd, rfl, hV⟩ | ⟨hno, rfl⟩
    · have HBW : Hid (bw l a b (some m)) := ⟨HQ.out, hbest⟩
      have HBd : Hid (_) := hbd
      have N1 := new_below w5 (.cells #[.slice (some ⟨g, 0, none⟩) m.s.length cap, .int .i64 m.c] 109)
      have HI : Hid (Ints (w5.alloc (.cells #[.slice (some ⟨g, 0, none⟩) m.s.length cap, .int .i64 m.c] 109)) (some ⟨g, 0, none⟩) m.s) := hV.on N1
      clear hbest hbd hV
      go_wp2
      refine bodyPost_ret (results_tmp2 rfl _ _ _) rfl ?_
      exact ⟨some m, _, cap, HBW.out, rfl, HBd.out.1, HI.out, join_below LW N1, Or.inr ⟨_, rfl⟩⟩
    · have HBW : Hid (bw l a b none) := Or.inr hno
      have N1 := new_below w5 (.cells #[.slice none 0 0, .int .i64 0] 109)
      clear hno
      go_wp2
      refine bodyPost_ret (results_tmp2 rfl _ _ _) rfl ?_
      exact ⟨none, none, 0, HBW.out, rfl, by simp [sOf], Or.inl rfl, join_below LW N1, Or.inl rfl⟩
  · have hf : askB l a b = false := by simpa using hq
    have HBW : Hid (bw l a b none) := Or.inl hf
    have HF : Hid (tarB l = true → inB a 1 9999 = true → inB b 1 9999 = true → False) := fun h1 h2 h3 => by rw [hask, h1, h2, h3] at hf; simp at hf
    clear hask hq hf
    generalize tarB l = t1 at *
    generalize inB a 1 9999 = t2 at *
    generalize inB b 1 9999 = t3 at *
    go_enter Try.func29, Try.ntmps29
    go_wp2_with fail
    refine (HT.out _ I).mono ?_
    rintro e w1 ⟨rfl, L1⟩
    cases t1
    · go_wp2
      refine bodyPost_ret (results_tmp2 rfl _ _ _) rfl ?_
      exact ⟨none, _, 0, HBW.out, rfl, by simp [sOf], Or.inl rfl, join_below L1 (new_below _ _), Or.inl rfl⟩
    go_wp2_with fail
    refine (HA.out _).mono ?_
    rintro e w2 ⟨rfl, rfl⟩
    cases t2
    · go_wp2
      refine bodyPost_ret (results_tmp2 rfl _ _ _) rfl ?_
      exact ⟨none, _, 0, HBW.out, rfl, by simp [sOf], Or.inl rfl, join_below L1 (new_below _ _), Or.inl rfl⟩
    go_wp2_with fail
    refine (HB.out _).mono ?_
    rintro e w3 ⟨rfl, rfl⟩
    cases t3
    · go_wp2
      refine bodyPost_ret (results_tmp2 rfl _ _ _) rfl ?_
      exact ⟨none, _, 0, HBW.out, rfl, by simp [sOf], Or.inl rfl, join_below L1 (new_below _ _), Or.inl rfl⟩
    · exact (HF.out (by trivial) (by trivial) (by trivial)).elim


end Tf
end Go.Proofs.Ytmhongcbgokilad
