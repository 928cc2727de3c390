/- The program's GetTicket. -/
import Derived.Test.YtbfgfedblnldcaaDoorGtPure
namespace Go.Proofs.YtbfgfedblnldcaaDoor
namespace Gt
open Go.ChangeShapes Go.WideShapes Go.ChangeAt Go.RowKit
open Pk (own_at own_ge own_below own_form info_of new_below join_below heap_new lt_of kept cell_at heap_old frozen_at)
open Tk (Lg Hd Legs lgV tkV tkB okB putT putS p2V)
set_option linter.unusedSimpArgs false
set_option linter.unusedVariables false

theorem clone_val (s : ByteArray) (w : World) (hs : s.size ≤ 1048576) :
    Calls Tryd.prog 26 #[.string s] w fun e w' => e = .returned (.string s) ∧ Below w.heap.size w w' := by
  have HC : Hid (∀ W, _) := fun W => Tryd.stringslite_Clone s W (by omega)
  go_enter Tryd.func26, Tryd.ntmps26
  go_wp2_with fail
  refine (HC.out _).mono ?_
  rintro e w1 ⟨rfl, L1⟩
  go_wp2
  go_ret
  exact ⟨rfl, L1⟩

theorem gNm_size (s : ByteArray) : (gNm s).size ≤ s.size := by
  have e : ∀ l : List UInt8, (⟨l.toArray⟩ : ByteArray).size = l.length := fun l => by simp [ByteArray.size]
  obtain ⟨-, c2, -⟩ := ct_size s
  obtain ⟨d1, -, -⟩ := ct_size (ctR s)
  have hl : (ctA (ctR s)).data.toList.length = (ctA (ctR s)).size := Array.length_toList
  unfold gNm
  rw [e]
  unfold Lib.trimPrefix
  split
  · rw [List.length_drop]
    omega
  · omega

theorem gL_length : ∀ n r, (gL n r).length ≤ n
  | 0, _ => Nat.le_refl _
  | n + 1, r => by
    rw [gL]
    split
    · simp
    · have := gL_length n (ctR r)
      rw [List.length_cons]
      omega

set_option maxRecDepth 100000 in
set_option maxHeartbeats 4000000 in
theorem implGet_val (s : ByteArray) (w : World) (hs : s.size ≤ 1048576) (M : ML w) (Tn : Num.Tens w) :
    Calls Tryd.prog 10 #[.string s] w fun e w' => GetEnd s w.heap.size e w' ∧ Below w.heap.size w w' := by
  have N0 := new_below w (.cells #[.int .i64 0, .string ⟨#[]⟩, .int .i64 0, .int .i64 0, .int .i64 0, .int .i64 0, .slice none 0 0] 26)
  have m0 := heap_new w (.cells #[.int .i64 0, .string ⟨#[]⟩, .int .i64 0, .int .i64 0, .int .i64 0, .int .i64 0, .slice none 0 0] 26)
  have HGV : Hid (∀ W, ML W → _) := fun W h => guess_val s W hs h
  have HUN : Hid (∀ t nm ls, Good s t nm ls → gHd s = t ∧ gNm s = nm ∧ gLs s = ls) := fun t nm ls h => guess_good h
  have hnz : (gNm s).size ≤ 1048576 := Nat.le_trans (gNm_size s) hs
  have hl7 : (gLs s).length ≤ 7 := gL_length 7 _
  have HPV : Hid (∀ W (a : Option Addr) (lc : Nat), Legs W a (gLs s) → Num.Tens W → _) := fun W a lc h1 h2 => Tk.implPut_val (gHd s) (gNm s) a (gLs s) lc W (by unfold maxLen; omega) (by omega) h1 h2
  have HCL : Hid (∀ W, _) := fun W => clone_val (gNm s) W hnz
  generalize gHd s = t at *
  generalize gNm s = nm at *
  generalize gLs s = ls at *
  go_enter Tryd.func10, Tryd.ntmps10
  go_wp2_with fail
  generalize w.alloc (.cells #[.int .i64 0, .string ⟨#[]⟩, .int .i64 0, .int .i64 0, .int .i64 0, .int .i64 0, .slice none 0 0] 26) = w0 at *
  refine (HGV.out _ (M.on N0)).mono ?_
  rintro e w1 ⟨⟨a, lc, rfl, O1⟩, L1⟩
  have m1 := kept L1 (lt_of m0) m0
  have K1 := join_below N0 L1
  have NT := new_below w1 (.cells #[.int .i64 t.id, .string nm, .int .i64 t.cl, .int .i64 t.pr, .int .i64 t.fi, .int .i64 t.la, .slice a ls.length lc] 26)
  have mT := heap_new w1 (.cells #[.int .i64 t.id, .string nm, .int .i64 t.cl, .int .i64 t.pr, .int .i64 t.fi, .int .i64 t.la, .slice a ls.length lc] 26)
  have m2 := kept NT (lt_of m1) m1
  have K2 := join_below K1 NT
  have O2 := own_below O1 NT (Nat.le_refl _)
  have O3 := own_base O2 (show w.heap.size ≤ w0.heap.size from N0.size)
  have hTR : w1.heap.size ≠ w.heap.size := by have := lt_of m1; omega
  have hTge : w.heap.size ≤ w1.heap.size := by have := lt_of m1; omega
  obtain ⟨a2, lc2, e2, I2⟩ := own_legs O3
  simp only [Value.slice.injEq, true_and] at e2
  obtain ⟨rfl, rfl⟩ := e2
  clear N0 m0 L1 m1 K1 NT O1 O2 HGV
  unfold Tk.tkV at HPV
  have t0 : (w1.alloc (.cells #[.int .i64 t.id, .string nm, .int .i64 t.cl, .int .i64 t.pr, .int .i64 t.fi, .int .i64 t.la, .slice a ls.length lc] 26)).cell? ⟨w1.heap.size, 0, none⟩ = some (.int .i64 t.id) := cell_at mT 0
  have t1 : (w1.alloc (.cells #[.int .i64 t.id, .string nm, .int .i64 t.cl, .int .i64 t.pr, .int .i64 t.fi, .int .i64 t.la, .slice a ls.length lc] 26)).cell? ⟨w1.heap.size, 1, none⟩ = some (.string nm) := cell_at mT 1
  have t2 : (w1.alloc (.cells #[.int .i64 t.id, .string nm, .int .i64 t.cl, .int .i64 t.pr, .int .i64 t.fi, .int .i64 t.la, .slice a ls.length lc] 26)).cell? ⟨w1.heap.size, 2, none⟩ = some (.int .i64 t.cl) := cell_at mT 2
  have t3 : (w1.alloc (.cells #[.int .i64 t.id, .string nm, .int .i64 t.cl, .int .i64 t.pr, .int .i64 t.fi, .int .i64 t.la, .slice a ls.length lc] 26)).cell? ⟨w1.heap.size, 3, none⟩ = some (.int .i64 t.pr) := cell_at mT 3
  have t4 : (w1.alloc (.cells #[.int .i64 t.id, .string nm, .int .i64 t.cl, .int .i64 t.pr, .int .i64 t.fi, .int .i64 t.la, .slice a ls.length lc] 26)).cell? ⟨w1.heap.size, 4, none⟩ = some (.int .i64 t.fi) := cell_at mT 4
  have t5 : (w1.alloc (.cells #[.int .i64 t.id, .string nm, .int .i64 t.cl, .int .i64 t.pr, .int .i64 t.fi, .int .i64 t.la, .slice a ls.length lc] 26)).cell? ⟨w1.heap.size, 5, none⟩ = some (.int .i64 t.la) := cell_at mT 5
  have t6 : (w1.alloc (.cells #[.int .i64 t.id, .string nm, .int .i64 t.cl, .int .i64 t.pr, .int .i64 t.fi, .int .i64 t.la, .slice a ls.length lc] 26)).cell? ⟨w1.heap.size, 6, none⟩ = some (.slice a ls.length lc) := cell_at mT 6
  go_wp2_with fail
  generalize w1.alloc (.cells #[.int .i64 t.id, .string nm, .int .i64 t.cl, .int .i64 t.pr, .int .i64 t.fi, .int .i64 t.la, .slice a ls.length lc] 26) = w2 at *
  generalize w1.heap.size = T at *
  have HPU : Hid (∀ _ : Unit, _) := fun _ => HPV.out w2 a lc I2 (Tn.on K2)
  by_cases hok : okB t nm ls = true
  · by_cases hpt : putT t nm ls ls.length = s
    · rw [Tk.putS_yes t nm ls hok, hpt, hok] at HPU
      have hg : Good s t nm ls := ⟨hok, hpt⟩
      have HG : Hid (Good s t nm ls) := hg
      refine (HPU.out ()).mono ?_
      rintro e w3 ⟨rfl, L3⟩
      have m3 := kept L3 (lt_of m2) m2
      have mT3 := kept L3 (lt_of mT) mT
      have O4 := own_below O3 L3 (Nat.le_refl _)
      have K3 := join_below K2 L3
      clear HPU HPV m2 mT O3 I2 K2 L3 hg hok hpt t0 t1 t2 t3 t4 t5 t6
      have n1 : w3.cell? ⟨T, 1, none⟩ = some (.string nm) := cell_at mT3 1
      go_wp2_with fail
      refine (HCL.out _).mono ?_
      rintro e w4 ⟨rfl, L4⟩
      have m4 := kept L4 (lt_of m3) m3
      have mT4 := kept L4 (lt_of mT3) mT3
      have O5 := own_below O4 L4 (Nat.le_refl _)
      have K4 := join_below K3 L4
      have mT5 := Tk.h_set (i := 1) mT4 (.string nm)
      have m5 := Tk.h_other (i := 1) m4 (Ne.symm hTR) (.string nm)
      have f1 : w4.frozen? ⟨T, 1, none⟩ = false := frozen_at mT4 1
      have n2 : w4.cell? ⟨T, 1, none⟩ = some (.string nm) := cell_at mT4 1
      have aT : (Value.slice a ls.length lc).ownBlock ≠ some T := Pk.own_ne' O5 mT4 (by decide)
      have aR : (Value.slice a ls.length lc).ownBlock ≠ some w.heap.size := Pk.own_ne' O5 m4 (by decide)
      have O6 : (w4.setCell ⟨T, 1, none⟩ (.string nm)).ownsRow w.heap.size 40 6 (.slice a ls.length lc) ls.length (lcells ls) := own_offv O5 aT _
      have K5 := K4.setCell (p := ⟨T, 1, none⟩) (by show w.heap.size ≤ T; exact hTge) (.string nm)
      clear m3 mT3 O4 K3 L4 HCL n1
      have b0 : (w4.setCell ⟨T, 1, none⟩ (.string nm)).cell? ⟨T, 0, none⟩ = some (.int .i64 t.id) := cell_at mT5 0
      have b1 : (w4.setCell ⟨T, 1, none⟩ (.string nm)).cell? ⟨T, 1, none⟩ = some (.string nm) := cell_at mT5 1
      have b2 : (w4.setCell ⟨T, 1, none⟩ (.string nm)).cell? ⟨T, 2, none⟩ = some (.int .i64 t.cl) := cell_at mT5 2
      have b3 : (w4.setCell ⟨T, 1, none⟩ (.string nm)).cell? ⟨T, 3, none⟩ = some (.int .i64 t.pr) := cell_at mT5 3
      have b4 : (w4.setCell ⟨T, 1, none⟩ (.string nm)).cell? ⟨T, 4, none⟩ = some (.int .i64 t.fi) := cell_at mT5 4
      have b5 : (w4.setCell ⟨T, 1, none⟩ (.string nm)).cell? ⟨T, 5, none⟩ = some (.int .i64 t.la) := cell_at mT5 5
      have b6 : (w4.setCell ⟨T, 1, none⟩ (.string nm)).cell? ⟨T, 6, none⟩ = some (.slice a ls.length lc) := cell_at mT5 6
      have a0 : (w4.setCell ⟨T, 1, none⟩ (.string nm)).cell? ⟨w.heap.size, 0, none⟩ = some (.int .i64 0) := cell_at m5 0
      have a1 : (w4.setCell ⟨T, 1, none⟩ (.string nm)).cell? ⟨w.heap.size, 1, none⟩ = some (.string ⟨#[]⟩) := cell_at m5 1
      have a2 : (w4.setCell ⟨T, 1, none⟩ (.string nm)).cell? ⟨w.heap.size, 2, none⟩ = some (.int .i64 0) := cell_at m5 2
      have a3 : (w4.setCell ⟨T, 1, none⟩ (.string nm)).cell? ⟨w.heap.size, 3, none⟩ = some (.int .i64 0) := cell_at m5 3
      have a4 : (w4.setCell ⟨T, 1, none⟩ (.string nm)).cell? ⟨w.heap.size, 4, none⟩ = some (.int .i64 0) := cell_at m5 4
      have a5 : (w4.setCell ⟨T, 1, none⟩ (.string nm)).cell? ⟨w.heap.size, 5, none⟩ = some (.int .i64 0) := cell_at m5 5
      have a6 : (w4.setCell ⟨T, 1, none⟩ (.string nm)).cell? ⟨w.heap.size, 6, none⟩ = some (.slice none 0 0) := cell_at m5 6
      have r0 : (w4.setCell ⟨T, 1, none⟩ (.string nm)).frozen? ⟨w.heap.size, 0, none⟩ = false := frozen_at m5 0
      have r1 : (w4.setCell ⟨T, 1, none⟩ (.string nm)).frozen? ⟨w.heap.size, 1, none⟩ = false := frozen_at m5 1
      have r2 : (w4.setCell ⟨T, 1, none⟩ (.string nm)).frozen? ⟨w.heap.size, 2, none⟩ = false := frozen_at m5 2
      have r3 : (w4.setCell ⟨T, 1, none⟩ (.string nm)).frozen? ⟨w.heap.size, 3, none⟩ = false := frozen_at m5 3
      have r4 : (w4.setCell ⟨T, 1, none⟩ (.string nm)).frozen? ⟨w.heap.size, 4, none⟩ = false := frozen_at m5 4
      have r5 : (w4.setCell ⟨T, 1, none⟩ (.string nm)).frozen? ⟨w.heap.size, 5, none⟩ = false := frozen_at m5 5
      have r6 : (w4.setCell ⟨T, 1, none⟩ (.string nm)).frozen? ⟨w.heap.size, 6, none⟩ = false := frozen_at m5 6
      go_wp2
      refine bodyPost_ret (v := .tuple #[tkV t nm a ls.length lc, .bool true]) (by simp [results, Tryd.results10, go_sem, a0, a1, a2, a3, a4, a5, a6]) rfl ?_
      refine ⟨Or.inl ⟨t, nm, ls, a, lc, HG.out, rfl, ?_⟩, ?_⟩
      · exact own_offv (own_offv (own_offv (own_offv (own_offv (own_offv (own_offv O6 aR _) aR _) aR _) aR _) aR _) aR _) aR _
      · (repeat' (first | apply Below.setCell | exact K4)) <;> first | (simp; done) | (simp; omega)
    · rw [Tk.putS_yes t nm ls hok, hok] at HPU
      have HNG : Hid (∀ t2 nm2 ls2, ¬ Good s t2 nm2 ls2) := fun t2 nm2 ls2 h => by obtain ⟨rfl, rfl, rfl⟩ := HUN.out t2 nm2 ls2 h; exact hpt h.2
      generalize putT t nm ls ls.length = pt at *
      have z1 : ¬ pt.toList = s.toList := fun e => hpt (Go.WideShapes.bytes_inj (by rw [← ByteArray.toList_eq, ← ByteArray.toList_eq]; exact e))
      have z2 : (pt.toList == s.toList) = false := beq_eq_false_iff_ne.2 z1
      refine (HPU.out ()).mono ?_
      rintro e w3 ⟨rfl, L3⟩
      have m3 := kept L3 (lt_of m2) m2
      have K3 := join_below K2 L3
      have a0 : w3.cell? ⟨w.heap.size, 0, none⟩ = some (.int .i64 0) := cell_at m3 0
      have a1 : w3.cell? ⟨w.heap.size, 1, none⟩ = some (.string ⟨#[]⟩) := cell_at m3 1
      have a2 : w3.cell? ⟨w.heap.size, 2, none⟩ = some (.int .i64 0) := cell_at m3 2
      have a3 : w3.cell? ⟨w.heap.size, 3, none⟩ = some (.int .i64 0) := cell_at m3 3
      have a4 : w3.cell? ⟨w.heap.size, 4, none⟩ = some (.int .i64 0) := cell_at m3 4
      have a5 : w3.cell? ⟨w.heap.size, 5, none⟩ = some (.int .i64 0) := cell_at m3 5
      have a6 : w3.cell? ⟨w.heap.size, 6, none⟩ = some (.slice none 0 0) := cell_at m3 6
      have r0 : w3.frozen? ⟨w.heap.size, 0, none⟩ = false := frozen_at m3 0
      have r1 : w3.frozen? ⟨w.heap.size, 1, none⟩ = false := frozen_at m3 1
      have r2 : w3.frozen? ⟨w.heap.size, 2, none⟩ = false := frozen_at m3 2
      have r3 : w3.frozen? ⟨w.heap.size, 3, none⟩ = false := frozen_at m3 3
      have r4 : w3.frozen? ⟨w.heap.size, 4, none⟩ = false := frozen_at m3 4
      have r5 : w3.frozen? ⟨w.heap.size, 5, none⟩ = false := frozen_at m3 5
      have r6 : w3.frozen? ⟨w.heap.size, 6, none⟩ = false := frozen_at m3 6
      go_wp2
      refine bodyPost_ret (v := .tuple #[tkV ⟨0, 0, 0, 0, 0⟩ ⟨#[]⟩ none 0 0, .bool false]) (by simp [results, Tryd.results10, go_sem, a0, a1, a2, a3, a4, a5, a6]) rfl ?_
      refine ⟨Or.inr ⟨HNG.out, rfl⟩, ?_⟩
      (repeat' (first | apply Below.setCell | exact K3)) <;> first | (simp; done) | (simp; omega)
  · have hok8 : okB t nm ls = false := Bool.eq_false_iff.2 hok
    rw [Tk.putS_no t nm ls hok8, hok8] at HPU
    have HNG : Hid (∀ t2 nm2 ls2, ¬ Good s t2 nm2 ls2) := fun t2 nm2 ls2 h => by obtain ⟨rfl, rfl, rfl⟩ := HUN.out t2 nm2 ls2 h; exact hok h.1
    refine (HPU.out ()).mono ?_
    rintro e w3 ⟨rfl, L3⟩
    have m3 := kept L3 (lt_of m2) m2
    have K3 := join_below K2 L3
    have a0 : w3.cell? ⟨w.heap.size, 0, none⟩ = some (.int .i64 0) := cell_at m3 0
    have a1 : w3.cell? ⟨w.heap.size, 1, none⟩ = some (.string ⟨#[]⟩) := cell_at m3 1
    have a2 : w3.cell? ⟨w.heap.size, 2, none⟩ = some (.int .i64 0) := cell_at m3 2
    have a3 : w3.cell? ⟨w.heap.size, 3, none⟩ = some (.int .i64 0) := cell_at m3 3
    have a4 : w3.cell? ⟨w.heap.size, 4, none⟩ = some (.int .i64 0) := cell_at m3 4
    have a5 : w3.cell? ⟨w.heap.size, 5, none⟩ = some (.int .i64 0) := cell_at m3 5
    have a6 : w3.cell? ⟨w.heap.size, 6, none⟩ = some (.slice none 0 0) := cell_at m3 6
    have r0 : w3.frozen? ⟨w.heap.size, 0, none⟩ = false := frozen_at m3 0
    have r1 : w3.frozen? ⟨w.heap.size, 1, none⟩ = false := frozen_at m3 1
    have r2 : w3.frozen? ⟨w.heap.size, 2, none⟩ = false := frozen_at m3 2
    have r3 : w3.frozen? ⟨w.heap.size, 3, none⟩ = false := frozen_at m3 3
    have r4 : w3.frozen? ⟨w.heap.size, 4, none⟩ = false := frozen_at m3 4
    have r5 : w3.frozen? ⟨w.heap.size, 5, none⟩ = false := frozen_at m3 5
    have r6 : w3.frozen? ⟨w.heap.size, 6, none⟩ = false := frozen_at m3 6
    go_wp2
    refine bodyPost_ret (v := .tuple #[tkV ⟨0, 0, 0, 0, 0⟩ ⟨#[]⟩ none 0 0, .bool false]) (by simp [results, Tryd.results10, go_sem, a0, a1, a2, a3, a4, a5, a6]) rfl ?_
    refine ⟨Or.inr ⟨HNG.out, rfl⟩, ?_⟩
    (repeat' (first | apply Below.setCell | exact K3)) <;> first | (simp; done) | (simp; omega)

end Gt
end Go.Proofs.YtbfgfedblnldcaaDoor
