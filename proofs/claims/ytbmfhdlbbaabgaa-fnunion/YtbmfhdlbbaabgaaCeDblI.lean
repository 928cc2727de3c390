/- Doubles of the program. -/
import Derived.Test.YtbmfhdlbbaabgaaCeDblM
namespace Go.Proofs.Ytbmfhdlbbaabgaa
namespace Hn
open Go.ChangeShapes Go.WideShapes Go.ChangeAt Go.RowKit Go.Joins
open Pk (new_below join_below cell_at heap_new frozen_at lt_of kept heap_old Drawn info_of Room own_form own_below)
set_option linter.unusedSimpArgs false
set_option linter.unusedVariables false

theorem one_new (W : World) (v : Value) (t : TypeId) : ∀ j u, [v][j]? = some u → (W.alloc (.cells #[v] t)).cell? (Addr.add ⟨W.heap.size, 0, none⟩ j) = some u := by
  intro j u hu
  rw [add_plain, Nat.zero_add, cell_at (heap_new W (.cells #[v] t)), ← hu]
  simp

set_option maxRecDepth 100000 in
set_option maxHeartbeats 8000000 in
theorem implDbl_val (x0 : Pl) (o : Ctr) (w : World) (hz2 : o.sl.length ≤ 1048576) (hwf : Wfs o.sl) (I : In w x0 o) :
    Calls Try.prog 22 #[ceV x0 o] w fun e w' => ∃ v, e = .returned v ∧ w'.ownsRow w.heap.size 3 1 v (dblL o.sl).length (icells (dblL o.sl)) ∧ Below w.heap.size w w' := by
  obtain ⟨xa, xc, xb, xd⟩ := x0
  have IS : Controls w xb o.sl := I.seen
  obtain ⟨i0, hi, hz0, hz1, hz3⟩ := info_of intInfo
  have HWF : Hid (Wfs o.sl) := hwf
  have L0 : Below w.heap.size w ((w.alloc (ceB ⟨xa, xc, xb, xd⟩ o 27)).alloc (.map #[] 0)) := join_below (new_below _ _) (new_below _ _)
  have hsz : ((w.alloc (ceB ⟨xa, xc, xb, xd⟩ o 27)).alloc (.map #[] 0)).heap.size = w.heap.size + 1 + 1 := (Array.size_push ..).trans (congrArg (· + 1) (Array.size_push ..))
  have M0 : MpD (w.heap.size + 1) (fF o.sl 0) #[] 0 ((w.alloc (ceB ⟨xa, xc, xb, xd⟩ o 27)).alloc (.map #[] 0)) := by
    have := mp_newD (w.alloc (ceB ⟨xa, xc, xb, xd⟩ o 27))
    rw [show (w.alloc (ceB ⟨xa, xc, xb, xd⟩ o 27)).heap.size = w.heap.size + 1 from Array.size_push ..] at this
    exact this
  have HDL : Hid (Lib.compact ((dD o.sl o.sl.length).mergeSort fun x y => decide (x ≤ y)) = dblL o.sl) := dbl_same o.sl
  have hmk : ∀ w : World, (Instr.makeMap 68 none).run Try.prog w = .ok (.map (some w.heap.size)) (w.alloc (.map #[] 0)) := fun w => by simp [Instr.makeMap, go_sem]
  clear I hwf
  go_enter Try.func22, Try.ntmps22
  go_wp2
  have O0 : Hid (((w.alloc (ceB ⟨xa, xc, xb, xd⟩ o 27)).alloc (.map #[] 0)).ownsRow (w.heap.size + 1 + 1) 3 1 (.slice none 0 0) (dD o.sl 0).length (icells (dD o.sl 0))) := none_row _ _ _ _
  have hsz2 := Nat.le_of_eq hsz.symm
  clear hsz
  go_loopw [4, 14] (fun v i wr => ∃ (k : Nat) (es : Array MapEntry) (ck : Nat), k ≤ o.sl.length ∧ i = .int .i64 k ∧ Below w.heap.size w wr ∧ w.heap.size + 1 + 1 ≤ wr.heap.size ∧ MpD (w.heap.size + 1) (fF o.sl k) es ck wr ∧ Hid (wr.ownsRow (w.heap.size + 1 + 1) 3 1 v (dD o.sl k).length (icells (dD o.sl k)))) (fun _ i _ => o.sl.length - (intOf i).toNat)
  case atStart => exact ⟨0, #[], 0, by omega, rfl, L0, hsz2, M0, O0⟩
  case round =>
    clear O0 hsz2 L0 M0
    obtain ⟨k, es, ck, hk, rfl, LR, hlo, MR, HO⟩ := hrel
    by_cases hkn : k < o.sl.length
    · obtain ⟨b, u, rfl, hltb, hc0, hc1, hc2, hc3, hc4, hc5⟩ := (IS.on LR).at k hkn
      have HSK : Hid (¬ elig o.sl[k] → fF o.sl (k + 1) = fF o.sl k ∧ dD o.sl (k + 1) = dD o.sl k) := fun h => fF_skip hkn h
      have HNW : Hid (elig o.sl[k] → fF o.sl k (keyD o.sl[k]) = none → fF o.sl (k + 1) = putD (fF o.sl k) (keyD o.sl[k]) o.sl[k].dv ∧ dD o.sl (k + 1) = dD o.sl k) := fun h h2 => fF_new hkn h h2
      have HSM : Hid (∀ d, elig o.sl[k] → fF o.sl k (keyD o.sl[k]) = some d → d = o.sl[k].dv → fF o.sl (k + 1) = fF o.sl k ∧ dD o.sl (k + 1) = dD o.sl k) := fun d h h2 h3 => fF_same hkn h h2 h3
      have HMR : Hid (∀ d, elig o.sl[k] → fF o.sl k (keyD o.sl[k]) = some d → ¬ d = o.sl[k].dv → fF o.sl (k + 1) = fF o.sl k ∧ dD o.sl (k + 1) = dD o.sl k ++ [o.sl[k].tk]) := fun d h h2 h3 => fF_more hkn h h2 h3
      have HWK : Hid (WfKD (keyD o.sl[k])) := wf_key HWF.out hkn
      have hdl := dD_len o.sl k
      generalize o.sl[k] = x at *
      have NX := new_below wr (.cells #[.int .i64 x.dv, .int .i64 x.no, .int .i64 x.tk, .int .i64 x.tr, .int .i64 x.dy, .int .i64 x.sa] 37)
      have LX := join_below LR NX
      have OX := own_below HO.out NX (Nat.le_refl _)
      have MX : MpD (w.heap.size + 1) (fF o.sl k) es ck (wr.alloc (.cells #[.int .i64 x.dv, .int .i64 x.no, .int .i64 x.tk, .int .i64 x.tr, .int .i64 x.dy, .int .i64 x.sa] 37)) := MR.on (NX.block _ (lt_of MR.blk))
      have hloX : w.heap.size + 1 + 1 ≤ (wr.alloc (.cells #[.int .i64 x.dv, .int .i64 x.no, .int .i64 x.tk, .int .i64 x.tr, .int .i64 x.dy, .int .i64 x.sa] 37)).heap.size := Nat.le_trans hlo NX.size
      obtain ⟨va, vc, rfl, -⟩ := own_form OX
      by_cases h1 : x.tk < 1
      · have d1 : decide (x.tk < 1) = true := decide_eq_true h1
        obtain ⟨e1, e2⟩ := HSK.out (fun h => by have := h.1; omega)
        have HF : Hid (MpD (w.heap.size + 1) (fF o.sl (k + 1)) es ck (wr.alloc (.cells #[.int .i64 x.dv, .int .i64 x.no, .int .i64 x.tk, .int .i64 x.tr, .int .i64 x.dy, .int .i64 x.sa] 37)) ∧ Hid ((wr.alloc (.cells #[.int .i64 x.dv, .int .i64 x.no, .int .i64 x.tk, .int .i64 x.tr, .int .i64 x.dy, .int .i64 x.sa] 37)).ownsRow (w.heap.size + 1 + 1) 3 1 (.slice va (dD o.sl k).length vc) (dD o.sl (k + 1)).length (icells (dD o.sl (k + 1))))) := by
          rw [e1, e2]; exact ⟨MX, OX⟩
        clear h1 e1 e2 HSK HNW HSM HMR HWK OX MX NX MR HO
        go_wp2
        go_roundw
        case rel => exact ⟨k + 1, es, ck, by omega, by go_num, LX, hloX, HF.out.1, HF.out.2⟩
        case measure => simp [intOf]; omega
      · have d1 : decide (x.tk < 1) = false := decide_eq_false h1
        by_cases h2 : x.sa = 0
        · have d2 : (x.sa != 0) = false := by simp [h2]
          have he : elig x := ⟨by omega, h2⟩
          have HEL : Hid (elig x) := he
          clear h1 h2 he HSK
          have NT := new_below (wr.alloc (.cells #[.int .i64 x.dv, .int .i64 x.no, .int .i64 x.tk, .int .i64 x.tr, .int .i64 x.dy, .int .i64 x.sa] 37)) (.cells #[.int .i64 x.tk, .int .i64 x.tr, .int .i64 x.dy] 70)
          have LT := join_below LX NT
          have OT := own_below OX NT (Nat.le_refl _)
          have MT : MpD (w.heap.size + 1) (fF o.sl k) es ck ((wr.alloc (.cells #[.int .i64 x.dv, .int .i64 x.no, .int .i64 x.tk, .int .i64 x.tr, .int .i64 x.dy, .int .i64 x.sa] 37)).alloc (.cells #[.int .i64 x.tk, .int .i64 x.tr, .int .i64 x.dy] 70)) := MX.on (NT.block _ (lt_of MX.blk))
          have hloT := Nat.le_trans hloX NT.size
          have HBT : Hid (((wr.alloc (.cells #[.int .i64 x.dv, .int .i64 x.no, .int .i64 x.tk, .int .i64 x.tr, .int .i64 x.dy, .int .i64 x.sa] 37)).alloc (.cells #[.int .i64 x.tk, .int .i64 x.tr, .int .i64 x.dy] 70)).heap[w.heap.size + 1]? = some (.map es ck)) := MT.blk
          clear OX MX NX NT LX hloX MR HO
          cases hf : fF o.sl k (keyD x) with
          | none =>
            obtain ⟨hlk, hup⟩ := MT.miss (keyD x) HWK.out hf
            obtain ⟨es2, ck2, hst, MS, -⟩ := hup _ x.dv HBT.out
            have hl1 := hlk _ HBT.out
            obtain ⟨e1, e2⟩ := HNW.out HEL.out hf
            have LS := sb_below (o' := .map es2 ck2) LT HBT.out (show w.heap.size ≤ w.heap.size + 1 by omega)
            have OS := sb_own (o' := .map es2 ck2) OT HBT.out (show w.heap.size + 1 < w.heap.size + 1 + 1 by omega)
            have hsS : w.heap.size + 1 + 1 ≤ (Go.ChangeMaps.setBlock ((wr.alloc (.cells #[.int .i64 x.dv, .int .i64 x.no, .int .i64 x.tk, .int .i64 x.tr, .int .i64 x.dy, .int .i64 x.sa] 37)).alloc (.cells #[.int .i64 x.tk, .int .i64 x.tr, .int .i64 x.dy] 70)) (w.heap.size + 1) (.map es2 ck2)).heap.size := by rw [sb_size]; exact hloT
            have HF : Hid (MpD (w.heap.size + 1) (fF o.sl (k + 1)) es2 ck2 (Go.ChangeMaps.setBlock ((wr.alloc (.cells #[.int .i64 x.dv, .int .i64 x.no, .int .i64 x.tk, .int .i64 x.tr, .int .i64 x.dy, .int .i64 x.sa] 37)).alloc (.cells #[.int .i64 x.tk, .int .i64 x.tr, .int .i64 x.dy] 70)) (w.heap.size + 1) (.map es2 ck2)) ∧ Hid ((Go.ChangeMaps.setBlock ((wr.alloc (.cells #[.int .i64 x.dv, .int .i64 x.no, .int .i64 x.tk, .int .i64 x.tr, .int .i64 x.dy, .int .i64 x.sa] 37)).alloc (.cells #[.int .i64 x.tk, .int .i64 x.tr, .int .i64 x.dy] 70)) (w.heap.size + 1) (.map es2 ck2)).ownsRow (w.heap.size + 1 + 1) 3 1 (.slice va (dD o.sl k).length vc) (dD o.sl (k + 1)).length (icells (dD o.sl (k + 1))))) := by
              rw [e1, e2]; exact ⟨MS, OS⟩
            clear e1 e2 HNW HSM HMR HWK OT MT MS OS LT hloT hlk hup hf
            unfold kyVD keyD at hl1 hst
            go_wp2
            go_roundw
            case rel => exact ⟨k + 1, es2, ck2, by omega, by go_num, LS, hsS, HF.out.1, HF.out.2⟩
            case measure => simp [intOf]; omega
          | some dv =>
            have hl1 := MT.hit (keyD x) HWK.out hf _ HBT.out
            unfold kyVD keyD at hl1
            by_cases h3 : dv = x.dv
            · have d3 : (dv != x.dv) = false := by simp [h3]
              obtain ⟨e1, e2⟩ := HSM.out dv HEL.out hf h3
              have HF : Hid (MpD (w.heap.size + 1) (fF o.sl (k + 1)) es ck ((wr.alloc (.cells #[.int .i64 x.dv, .int .i64 x.no, .int .i64 x.tk, .int .i64 x.tr, .int .i64 x.dy, .int .i64 x.sa] 37)).alloc (.cells #[.int .i64 x.tk, .int .i64 x.tr, .int .i64 x.dy] 70)) ∧ Hid (((wr.alloc (.cells #[.int .i64 x.dv, .int .i64 x.no, .int .i64 x.tk, .int .i64 x.tr, .int .i64 x.dy, .int .i64 x.sa] 37)).alloc (.cells #[.int .i64 x.tk, .int .i64 x.tr, .int .i64 x.dy] 70)).ownsRow (w.heap.size + 1 + 1) 3 1 (.slice va (dD o.sl k).length vc) (dD o.sl (k + 1)).length (icells (dD o.sl (k + 1))))) := by
                rw [e1, e2]; exact ⟨MT, OT⟩
              clear e1 e2 HNW HSM HMR HWK OT MT hf h3
              go_wp2
              go_roundw
              case rel => exact ⟨k + 1, es, ck, by omega, by go_num, LT, hloT, HF.out.1, HF.out.2⟩
              case measure => simp [intOf]; omega
            · have d3 : (dv != x.dv) = true := by simp [h3]
              obtain ⟨e1, e2⟩ := HMR.out dv HEL.out hf h3
              have N5 := new_below ((wr.alloc (.cells #[.int .i64 x.dv, .int .i64 x.no, .int .i64 x.tk, .int .i64 x.tr, .int .i64 x.dy, .int .i64 x.sa] 37)).alloc (.cells #[.int .i64 x.tk, .int .i64 x.tr, .int .i64 x.dy] 70)) (.cells #[.int .i64 x.tk] 3)
              have L5 := join_below LT N5
              have O5 := own_below OT N5 (Nat.le_refl _)
              have M5 : MpD (w.heap.size + 1) (fF o.sl (k + 1)) es ck (((wr.alloc (.cells #[.int .i64 x.dv, .int .i64 x.no, .int .i64 x.tk, .int .i64 x.tr, .int .i64 x.dy, .int .i64 x.sa] 37)).alloc (.cells #[.int .i64 x.tk, .int .i64 x.tr, .int .i64 x.dy] 70)).alloc (.cells #[.int .i64 x.tk] 3)) := by rw [e1]; exact MT.on (N5.block _ (lt_of MT.blk))
              have hlo5 := Nat.le_trans hloT N5.size
              have HE2 : Hid (dD o.sl (k + 1) = dD o.sl k ++ [x.tk]) := e2
              clear e1 e2 HNW HSM HMR HWK OT MT N5 LT hf h3
              have HON : Hid (∀ j u, [Value.int .i64 x.tk][j]? = some u → (((wr.alloc (.cells #[.int .i64 x.dv, .int .i64 x.no, .int .i64 x.tk, .int .i64 x.tr, .int .i64 x.dy, .int .i64 x.sa] 37)).alloc (.cells #[.int .i64 x.tk, .int .i64 x.tr, .int .i64 x.dy] 70)).alloc (.cells #[.int .i64 x.tk] 3)).cell? (Addr.add ⟨wr.heap.size + 1 + 1, 0, none⟩ j) = some u) := by
                have := one_new ((wr.alloc (.cells #[.int .i64 x.dv, .int .i64 x.no, .int .i64 x.tk, .int .i64 x.tr, .int .i64 x.dy, .int .i64 x.sa] 37)).alloc (.cells #[.int .i64 x.tk, .int .i64 x.tr, .int .i64 x.dy] 70)) (.int .i64 x.tk) 3
                rw [show ((wr.alloc (.cells #[.int .i64 x.dv, .int .i64 x.no, .int .i64 x.tk, .int .i64 x.tr, .int .i64 x.dy, .int .i64 x.sa] 37)).alloc (.cells #[.int .i64 x.tk, .int .i64 x.tr, .int .i64 x.dy] 70)).heap.size = wr.heap.size + 1 + 1 from (Array.size_push ..).trans (congrArg (· + 1) (Array.size_push ..))] at this
                exact this
              generalize dD o.sl k = d at *
              go_wp2_with (at_builtin; refine wpList_append_own_at _ rfl _ _ 24 rfl (w.heap.size + 1 + 1) 3 i0 (.int .i64 0) 1 8 Try.underlying24 hi hz0 hz1 hz3 rfl (by decide) _ _ _ rfl O5 ⟨wr.heap.size + 1 + 1, 0, none⟩ 1 1 [.int .i64 x.tk] rfl rfl ?c1 ?c2 ?c3 ?c4 ?c5 ?_)
              all_goals try (first | exact one_new _ _ _ | exact HON.out | rfl | (intro u hu; simp at hu; subst hu; rfl))
              case c3 => first | (unfold maxLen; omega) | omega
              case c4 => omega
              case c5 => first | exact hlo5 | omega
              intro v' w6 O6 G6 _ _
              have L6 : Below w.heap.size w w6 := L5.grown G6 L5.size (fun j hj => by have := (O5.lt j hj).1; omega)
              have hB6 : w6.heap[w.heap.size + 1]? = _ := G6.block _ (lt_of M5.blk) (fun h => by have := (O5.lt _ h.symm).1; omega)
              have M6 := M5.on hB6
              have hlo6 := Nat.le_trans hlo5 G6.size
              have HO6 : Hid (w6.ownsRow (w.heap.size + 1 + 1) 3 1 v' (dD o.sl (k + 1)).length (icells (dD o.sl (k + 1)))) := by
                show w6.ownsRow _ _ _ _ _ _
                rw [HE2.out]
                have e9 : icells d ++ [.int .i64 x.tk] = icells (d ++ [x.tk]) := by simp [icells]
                rw [e9] at O6
                simpa using O6
              clear O5 O6 G6 L5 M5 hB6 HE2
              go_wp2
              go_roundw
              case rel => exact ⟨k + 1, es, ck, by omega, by go_num, L6, hlo6, M6, HO6⟩
              case measure => simp [intOf]; omega
        · have d2 : (x.sa != 0) = true := by simp [h2]
          obtain ⟨e1, e2⟩ := HSK.out (fun h => h2 h.2)
          have HF : Hid (MpD (w.heap.size + 1) (fF o.sl (k + 1)) es ck (wr.alloc (.cells #[.int .i64 x.dv, .int .i64 x.no, .int .i64 x.tk, .int .i64 x.tr, .int .i64 x.dy, .int .i64 x.sa] 37)) ∧ Hid ((wr.alloc (.cells #[.int .i64 x.dv, .int .i64 x.no, .int .i64 x.tk, .int .i64 x.tr, .int .i64 x.dy, .int .i64 x.sa] 37)).ownsRow (w.heap.size + 1 + 1) 3 1 (.slice va (dD o.sl k).length vc) (dD o.sl (k + 1)).length (icells (dD o.sl (k + 1))))) := by
            rw [e1, e2]; exact ⟨MX, OX⟩
          clear h1 h2 e1 e2 HSK HNW HSM HMR HWK OX MX NX MR HO
          go_wp2
          go_roundw
          case rel => exact ⟨k + 1, es, ck, by omega, by go_num, LX, hloX, HF.out.1, HF.out.2⟩
          case measure => simp [intOf]; omega
    · obtain rfl : k = o.sl.length := by omega
      have O1 := HO.out
      have hdl := dD_len o.sl o.sl.length
      have HSO := sort_own (w.heap.size + 1 + 1) (dD o.sl o.sl.length) _ wr (by omega) O1
      obtain ⟨va, vc, rfl, -⟩ := own_form O1
      clear HO O1
      go_wp2_with fail
      refine HSO.mono ?_
      rintro e w7 ⟨rfl, O7, L7⟩
      have hml : ((dD o.sl o.sl.length).mergeSort fun x y => decide (x ≤ y)).length = (dD o.sl o.sl.length).length := List.length_mergeSort ..
      have L17 := LR.trans (L7.mono (by omega))
      clear HSO L7
      rw [← hml] at O7
      have HCO := compact_own (w.heap.size + 1 + 1) _ _ w7 (by omega) O7
      rw [HDL.out, hml] at HCO
      clear O7 hml
      go_wp2_with fail
      refine HCO.mono ?_
      rintro e w8 ⟨v', rfl, O8, L8⟩
      have LL := L17.trans (L8.mono (by omega))
      have O9 : Hid (_) := own_lower O8 (show w.heap.size ≤ w.heap.size + 1 + 1 by omega)
      obtain ⟨va8, vc8, rfl, -⟩ := own_form O8
      clear O8 L8 HCO
      go_wp2
      go_ret
      exact ⟨_, rfl, O9.out, LL⟩

end Hn
end Go.Proofs.Ytbmfhdlbbaabgaa
