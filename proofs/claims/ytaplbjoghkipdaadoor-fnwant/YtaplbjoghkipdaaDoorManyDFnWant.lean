/- Texts laid into one, in their order: WnSpec, RdMark, WnMark, WnOne, WnLaw. -/
import Derived.Test.YtaplbjoghkipdaaDoorManyCFnWant
import Derived.Deep.RegionLaw
import Derived.Deep.RegionHeld3
import Derived.Deep.AppendLies
import Derived.Deep.Cut
import Derived.Deep.CutBlock
import Derived.Test.YtaplbjoghkipdaaDoorTnRides
import Derived.Test.YtaplbjoghkipdaaDoorManyBFnWant
import Derived.Shelf.Vars
import Derived.Test.YtaplbjoghkipdaaDoorCurNum
import Derived.BigQuiet
/- The model's ReadWant. -/
namespace Go.Proofs.YtaplbjoghkipdaaDoor
namespace Wn
open Go.ChangeShapes Go.WideShapes Go.ChangeAt Go.RowKit
open Pk (own_at own_ge own_below own_form info_of new_below join_below heap_new lt_of kept cell_at heap_old frozen_at icells icells_snoc icells_at info_int)
open Rd (Ri Rides)
open Gt (split tcells tcells_at own_new own_base vl cell_one)
set_option linter.unusedSimpArgs false
set_option linter.unusedVariables false

/-- The numbers of the first k words. -/
def lN (ws : List ByteArray) (k : Nat) : List Nat := (List.range k).map fun i => vl (wd ws i)

theorem lN_length (ws : List ByteArray) (k : Nat) : (lN ws k).length = k := by simp [lN]
theorem lN_step (ws : List ByteArray) (k : Nat) : lN ws (k + 1) = lN ws k ++ [vl (wd ws k)] := by
  unfold lN
  rw [List.range_succ, List.map_append]
  rfl
theorem lN_at (ws : List ByteArray) (k i : Nat) (h : i < k) : (icells (lN ws k))[i]? = some (.int .i64 ((vl (wd ws i) : Nat) : Int)) := by
  rw [icells_at _ i (by rw [lN_length]; exact h)]
  simp [lN]

/-- As far as words are read. -/
structure Sofar (ws : List ByteArray) (k : Nat) : Prop where
  k30 : k ≤ 30
  kw : k + 1 ≤ ws.length
  rd : ∀ i, i < k → Gt.Rd (wd ws i)
  six : ∀ i, 6 ≤ i → i < k → i < 6 + 4 * vl (wd ws 5)

theorem Sofar.next {ws : List ByteArray} {k : Nat} (h : Sofar ws k) (h1 : k < 30) (h2 : k + 1 < ws.length) (h3 : Gt.Rd (wd ws k)) (h4 : 6 ≤ k → k < 6 + 4 * vl (wd ws 5)) : Sofar ws (k + 1) :=
  ⟨by omega, by omega, fun i hi => by
    by_cases e : i = k
    · rw [e]; exact h3
    · exact h.rd i (by omega), fun i h6 hi => by
    by_cases e : i = k
    · rw [e]; exact h4 (by omega)
    · exact h.six i h6 (by omega)⟩

theorem Sofar.stop {ws : List ByteArray} {k : Nat} (h : Sofar ws k) (hs : k + 1 = ws.length ∨ k = 30 ∨ ¬ Gt.Rd (wd ws k) ∨ (6 ≤ k ∧ 6 + 4 * vl (wd ws 5) ≤ k)) : Stop ws k := ⟨h.k30, h.kw, h.rd, h.six, hs⟩

set_option maxRecDepth 100000 in
set_option maxHeartbeats 16000000 in
theorem specGet_val (s : ByteArray) (w : World) (hs : s.size ≤ 1048576) :
    Calls Tryd.prog 11 #[.string s] w fun e w' => GetEnd s w.heap.size e w' ∧ Below w.heap.size w w' := by
  obtain ⟨i0, hi, hz0, hz1, hz2⟩ := info_of info_int
  obtain ⟨j0, hj, hy0, hy1, hy2⟩ := info_of Rd.info_ride
  have N0 := new_below w (.cells #[.int .i64 0, .int .i64 0, .int .i64 0, .string ⟨#[]⟩, .int .i64 0, .int .i64 0, .slice none 0 0] 26)
  have m0 := heap_new w (.cells #[.int .i64 0, .int .i64 0, .int .i64 0, .string ⟨#[]⟩, .int .i64 0, .int .i64 0, .slice none 0 0] 26)
  have HSP : Hid (∀ W, _) := fun W => Gt.split_val 32 s W (by omega)
  rw [show (((32 : UInt8).toNat : Nat) : Int) = 32 from rfl] at HSP
  have HFN : Hid ((split 32 s).length < 7 → ∀ t nm ls, ¬ Good s t nm ls) := few_no
  have HSG : Hid (∀ k, Stop (split 32 s) k → ∀ t nm ls, Good s t nm ls → k = 6 + 4 * ls.length ∧ vl (wd (split 32 s) 5) = ls.length ∧ hW (split 32 s) = t ∧ nmW s k = nm ∧ rsW (split 32 s) ls.length = ls) := fun k St t nm ls G => stop_good St G
  have HAL : Hid (∀ k, k + 1 ≤ (split 32 s).length → atN (split 32 s) k ≤ s.size) := fun k h => atN_le s k h
  have HNM : Hid (∀ k, nmW s k = s.extract (atN (split 32 s) k) s.size) := fun k => rfl
  have HWZ : Hid (∀ x ∈ split 32 s, x.size ≤ s.size) := Gt.splF_size 32 s _ _ _
  have hwl : (split 32 s).length ≤ 1048577 := by
    have := (Gt.splF_length 32 s s.size 0 0).2
    show (Gt.splF 32 s s.size 0 0).length ≤ _
    omega
  generalize split 32 s = ws at *
  go_enter Tryd.func11, Tryd.ntmps11
  go_wp2_with fail
  generalize w.alloc (.cells #[.int .i64 0, .int .i64 0, .int .i64 0, .string ⟨#[]⟩, .int .i64 0, .int .i64 0, .slice none 0 0] 26) = w0 at *
  refine (HSP.out _).mono ?_
  rintro e w1 ⟨v, rfl, O1, L1⟩
  have m1 := kept L1 (lt_of m0) m0
  have K1 := join_below N0 L1
  have T1 := Gt.own_txts O1
  obtain ⟨va, vc, rfl, hva⟩ := T1
  clear N0 m0 HSP O1 L1
  by_cases h7 : ws.length < 7
  · have h7I : (ws.length : Int) < 7 := by omega
    have HNG : Hid (∀ t nm ls, ¬ Good s t nm ls) := HFN.out h7
    have a0 : w1.cell? ⟨w.heap.size, 0, none⟩ = some (.int .i64 0) := cell_at m1 0
    have a1 : w1.cell? ⟨w.heap.size, 1, none⟩ = some (.int .i64 0) := cell_at m1 1
    have a2 : w1.cell? ⟨w.heap.size, 2, none⟩ = some (.int .i64 0) := cell_at m1 2
    have a3 : w1.cell? ⟨w.heap.size, 3, none⟩ = some (.string ⟨#[]⟩) := cell_at m1 3
    have a4 : w1.cell? ⟨w.heap.size, 4, none⟩ = some (.int .i64 0) := cell_at m1 4
    have a5 : w1.cell? ⟨w.heap.size, 5, none⟩ = some (.int .i64 0) := cell_at m1 5
    have a6 : w1.cell? ⟨w.heap.size, 6, none⟩ = some (.slice none 0 0) := cell_at m1 6
    have f0 : w1.frozen? ⟨w.heap.size, 0, none⟩ = false := frozen_at m1 0
    have f1 : w1.frozen? ⟨w.heap.size, 1, none⟩ = false := frozen_at m1 1
    have f2 : w1.frozen? ⟨w.heap.size, 2, none⟩ = false := frozen_at m1 2
    have f3 : w1.frozen? ⟨w.heap.size, 3, none⟩ = false := frozen_at m1 3
    have f4 : w1.frozen? ⟨w.heap.size, 4, none⟩ = false := frozen_at m1 4
    have f5 : w1.frozen? ⟨w.heap.size, 5, none⟩ = false := frozen_at m1 5
    have f6 : w1.frozen? ⟨w.heap.size, 6, none⟩ = false := frozen_at m1 6
    go_wp2
    refine bodyPost_ret (v := .tuple #[wnV ⟨0, 0, 0, 0, 0⟩ ⟨#[]⟩ none 0 0, .bool false]) (by simp [results, Tryd.results11, go_sem, a0, a1, a2, a3, a4, a5, a6]) rfl ?_
    refine ⟨Or.inr ⟨HNG.out, rfl⟩, ?_⟩
    (repeat' (first | apply Below.setCell | exact K1)) <;> first | (simp; done) | (simp; omega)
  · have h7I : ¬ (ws.length : Int) < 7 := by omega
    obtain ⟨gw, rfl, hgw, hcw⟩ := hva.resolve_left (by omega)
    have O2 := own_new w1 3 1
    have N2 := new_below w1 (.cells #[] 3)
    have m2 := kept N2 (lt_of m1) m1
    have K2 := join_below K1 N2
    have HCW : Hid (∀ i (h : i < ws.length), (w1.alloc (.cells #[] 3)).cell? ⟨gw, i, none⟩ = some (.string ws[i])) := fun i h => by rw [N2.cell (p := ⟨gw, i, none⟩) hgw]; exact hcw i h
    have hgw2 : gw < (w1.alloc (.cells #[] 3)).heap.size := Nat.lt_of_lt_of_le hgw N2.size
    have hs1 : (w1.alloc (.cells #[] 3)).heap.size = w1.heap.size + 1 := Array.size_push ..
    go_upto_block 0 with fail
    generalize hW2 : w1.alloc (.cells #[] 3) = w2 at *
    go_cut [5, 6, 7] from 21 to 66 (fun v a i wc => ∃ k : Nat, a = .int .i64 (atN ws k : Nat) ∧ Hid (Stop ws k) ∧ wc.ownsRow w1.heap.size 3 1 v k (icells (lN ws k)) ∧ Hid (Below w1.heap.size w1 wc))
    case first =>
      go_wp2
      go_loopw [5, 6, 7] (fun v a i wr => ∃ k : Nat, i = .int .i64 k ∧ a = .int .i64 (atN ws k : Nat) ∧ Hid (Sofar ws k) ∧ wr.ownsRow w1.heap.size 3 1 v k (icells (lN ws k)) ∧ Hid (Below w1.heap.size w1 wr)) (fun _ _ i _ => 30 - (intOf i).toNat)
      case atStart => exact ⟨0, rfl, rfl, ⟨by omega, by omega, fun i hi => by omega, fun i _ hi => by omega⟩, O2, N2⟩
      case round =>
        clear O2 N2 K2 m2
        obtain ⟨k, rfl, rfl, HSF, O, L⟩ := hrel
        have hk30 := HSF.out.k30
        have hkw := HSF.out.kw
        have hnl : (ws.length : Int) ≤ 1048577 := by omega
        have hBr : w1.heap.size ≤ wr.heap.size := L.out.size
        by_cases hk1 : k + 1 < ws.length
        · by_cases hk2 : k < 30
          · have g1 : (k : Int) < (ws.length : Int) - 1 := by omega
            have g2 : (k : Int) < 30 := by omega
            have hk0 : (0 : Int) ≤ (k : Int) := by omega
            have r0 : wr.cell? ⟨gw, k, none⟩ = some (.string ws[k]) := by rw [L.out.cell (p := ⟨gw, k, none⟩) hgw]; exact hcw k (by omega)
            have hkI : (k : Int) < (ws.length : Int) := by omega
            have HWK : Hid (wd ws k = ws[k]) := wd_at ws k (by omega)
            have hxz := HWZ.out ws[k] (List.getElem_mem (by omega))
            have hAS := atN_step ws k (by omega)
            have hAL := HAL.out (k + 1) (by omega)
            have hLN := lN_step ws k
            have HLN : Hid (_) := hLN
            clear hLN
            by_cases hrd : Gt.Rd ws[k]
            · have HRD : Hid (∀ W, _) := fun W => Num.specReadDec_yes ws[k] W (by unfold maxLen; omega) hrd
              have HAS : Hid (_) := hAS
              have hrd2 : Gt.Rd (wd ws k) := by rw [HWK.out]; exact hrd
              have HCX : Hid (w1.cell? ⟨gw, k, none⟩ = some (.string ws[k])) := hcw k (by omega)
              have hvk : vl (wd ws k) = Math.val ws[k].data.toList := by rw [HWK.out]
              rw [hvk] at HLN
              rw [hAS] at hAL
              have hNI : (atN ws k : Int) + (ws[k].size : Int) ≤ 1048576 := by omega
              have hN0 : (0 : Int) ≤ (atN ws k : Int) := by omega
              clear hAS hvk hAL
              generalize Math.val ws[k].data.toList = vx at *
              by_cases h6 : 6 ≤ k
              · have g3 : (6 : Int) ≤ (k : Int) := by omega
                obtain ⟨gl, cl, rfl⟩ := Gt.own_pos O (by omega)
                have r6 : wr.cell? ⟨gl, 5, none⟩ = some (.int .i64 ((vl (wd ws 5) : Nat) : Int)) := by
                  obtain ⟨g', cap', e, -, -, u, hu, hc⟩ := own_at O 5 (by omega)
                  simp only [Value.slice.injEq, Option.some.injEq, Addr.mk.injEq] at e
                  rw [lN_at ws k 5 (by omega)] at hu
                  rw [e.1.1, hc, ← hu]
                have hb5 : vl (wd ws 5) ≤ 999999999 := Gt.vl_bd (HSF.out.rd 5 (by omega))
                have h5k : (5 : Int) < (k : Int) := by omega
                by_cases hbr : 6 + 4 * vl (wd ws 5) ≤ k
                · have HST : Hid (Stop ws k) := HSF.out.stop (Or.inr (Or.inr (Or.inr ⟨h6, hbr⟩)))
                  have g4 : (6 : Int) + 4 * ((vl (wd ws 5) : Nat) : Int) ≤ (k : Int) := by omega
                  generalize vl (wd ws 5) = v5 at *
                  generalize ws[k] = x at *
                  go_wp2_with fail
                  refine (HRD.out _).mono ?_
                  rintro e w3 ⟨rfl, hw3⟩
                  have hw4 := hw3.symm
                  subst hw4
                  go_wp2
                  go_meet
                  case rel => exact ⟨k, by rfl, HST, O, L⟩
                · have HNX : Hid (Sofar ws (k + 1)) := HSF.out.next hk2 hk1 hrd2 (fun _ => by omega)
                  have g4 : ¬ (6 : Int) + 4 * ((vl (wd ws 5) : Nat) : Int) ≤ (k : Int) := by omega
                  clear hbr
                  generalize vl (wd ws 5) = v5 at *
                  generalize ws[k] = x at *
                  go_wp2_with fail
                  refine (HRD.out _).mono ?_
                  rintro e w3 ⟨rfl, hw3⟩
                  have hw4 := hw3.symm
                  subst hw4
                  go_wp2_with (at_builtin; refine wpList_append_own _ rfl _ _ 38 rfl w1.heap.size 3 i0 (.int .i64 0) 1 8 Tryd.underlying38 hi hz0 hz1 hz2 rfl (by decide) _ _ _ rfl (O.alloc _) ⟨wr.heap.size, 0, none⟩ 1 1 [.int .i64 (vx : Int)] rfl rfl ?c1 ?c2 ?c3 ?c4 ?c5 ?_)
                  case c1 => exact cell_one _ _ _
                  case c2 => intro u hu; simp at hu; subst hu; rfl
                  case c3 => unfold maxLen; omega
                  case c4 => omega
                  case c5 => simp; omega
                  intro v2 w5 own5 grow5 _
                  have L5 : Below w1.heap.size w1 w5 := (L.out.alloc hBr _).grown grow5 (by simp; omega) (fun m h => own_ge O m h)
                  rw [icells_snoc, ← HLN.out] at own5
                  have r5 : w5.cell? ⟨gw, k, none⟩ = some (.string x) := by rw [L5.cell (p := ⟨gw, k, none⟩) hgw]; exact HCX.out
                  clear grow5
                  go_wp2
                  go_roundw
                  case rel => exact ⟨k + 1, by go_num, by rw [HAS.out]; go_num, HNX, own5, L5⟩
                  case measure => simp [intOf]; omega
              · have HNX : Hid (Sofar ws (k + 1)) := HSF.out.next hk2 hk1 hrd2 (fun h => by omega)
                have g3 : ¬ (6 : Int) ≤ (k : Int) := by omega
                generalize ws[k] = x at *
                go_wp2_with fail
                refine (HRD.out _).mono ?_
                rintro e w3 ⟨rfl, hw3⟩
                have hw4 := hw3.symm
                subst hw4
                go_wp2_with (at_builtin; refine wpList_append_own _ rfl _ _ 38 rfl w1.heap.size 3 i0 (.int .i64 0) 1 8 Tryd.underlying38 hi hz0 hz1 hz2 rfl (by decide) _ _ _ rfl (O.alloc _) ⟨wr.heap.size, 0, none⟩ 1 1 [.int .i64 (vx : Int)] rfl rfl ?d1 ?d2 ?d3 ?d4 ?d5 ?_)
                first | (case d1 => exact cell_one _ _ _) | skip
                case d2 => first | rfl | (intro u hu; simp at hu; subst hu; rfl)
                case d3 => unfold maxLen; omega
                case d4 => omega
                case d5 => first | omega | (simp; omega)
                intro v2 w5 own5 grow5 _
                have L5 : Below w1.heap.size w1 w5 := (L.out.alloc hBr _).grown grow5 (by simp; omega) (fun m h => own_ge O m h)
                rw [icells_snoc, ← HLN.out] at own5
                have r5 : w5.cell? ⟨gw, k, none⟩ = some (.string x) := by rw [L5.cell (p := ⟨gw, k, none⟩) hgw]; exact HCX.out
                clear grow5
                go_wp2
                go_roundw
                case rel => exact ⟨k + 1, by go_num, by rw [HAS.out]; go_num, HNX, own5, L5⟩
                case measure => simp [intOf]; omega
            · have HRD : Hid (∀ W, _) := fun W => Num.specReadDec_no ws[k] W (by unfold maxLen; omega) hrd
              have HST : Hid (Stop ws k) := HSF.out.stop (Or.inr (Or.inr (Or.inl (by rw [HWK.out]; exact hrd))))
              clear hAS hAL HLN
              generalize ws[k] = x at *
              go_wp2_with fail
              refine (HRD.out _).mono ?_
              rintro e w3 ⟨rfl, hw3⟩
              have hw4 := hw3.symm
              subst hw4
              go_wp2
              go_meet
              case rel => exact ⟨k, rfl, HST, O, L⟩
          · obtain rfl : k = 30 := by omega
            have g1 : (30 : Int) < (ws.length : Int) - 1 := by omega
            have HST : Hid (Stop ws 30) := HSF.out.stop (Or.inr (Or.inl rfl))
            go_wp2
            go_meet
            case rel => exact ⟨30, rfl, HST, O, L⟩
        · have g1 : ¬ (k : Int) < (ws.length : Int) - 1 := by omega
          have HST : Hid (Stop ws k) := HSF.out.stop (Or.inl (by omega))
          go_wp2
          go_meet
          case rel => exact ⟨k, rfl, HST, O, L⟩
    case rest =>
      obtain ⟨k, rfl, HST, O, L⟩ := hcut
      have K3 : Below w.heap.size w wc := K1.trans (L.out.mono K1.size)
      have m3 := kept L.out (lt_of m1) m1
      have hk30 := HST.out.k30
      have hkw := HST.out.kw
      clear m1 m2 K2 hs1 hW2 hgw2 HCW O2 N2 hva hcw
      by_cases h6 : k < 6
      · have g1 : (k : Int) < 6 := by omega
        have HNG : Hid (∀ t nm ls, ¬ Good s t nm ls) := fun t nm ls G => by have := (HSG.out k HST.out t nm ls G).1; omega
        obtain ⟨sa, scap, rfl, -⟩ := own_form O
        have a0 : wc.cell? ⟨w.heap.size, 0, none⟩ = some (.int .i64 0) := cell_at m3 0
        have a1 : wc.cell? ⟨w.heap.size, 1, none⟩ = some (.int .i64 0) := cell_at m3 1
        have a2 : wc.cell? ⟨w.heap.size, 2, none⟩ = some (.int .i64 0) := cell_at m3 2
        have a3 : wc.cell? ⟨w.heap.size, 3, none⟩ = some (.string ⟨#[]⟩) := cell_at m3 3
        have a4 : wc.cell? ⟨w.heap.size, 4, none⟩ = some (.int .i64 0) := cell_at m3 4
        have a5 : wc.cell? ⟨w.heap.size, 5, none⟩ = some (.int .i64 0) := cell_at m3 5
        have a6 : wc.cell? ⟨w.heap.size, 6, none⟩ = some (.slice none 0 0) := cell_at m3 6
        have f0 : wc.frozen? ⟨w.heap.size, 0, none⟩ = false := frozen_at m3 0
        have f1 : wc.frozen? ⟨w.heap.size, 1, none⟩ = false := frozen_at m3 1
        have f2 : wc.frozen? ⟨w.heap.size, 2, none⟩ = false := frozen_at m3 2
        have f3 : wc.frozen? ⟨w.heap.size, 3, none⟩ = false := frozen_at m3 3
        have f4 : wc.frozen? ⟨w.heap.size, 4, none⟩ = false := frozen_at m3 4
        have f5 : wc.frozen? ⟨w.heap.size, 5, none⟩ = false := frozen_at m3 5
        have f6 : wc.frozen? ⟨w.heap.size, 6, none⟩ = false := frozen_at m3 6
        go_wp2
        refine bodyPost_ret (v := .tuple #[wnV ⟨0, 0, 0, 0, 0⟩ ⟨#[]⟩ none 0 0, .bool false]) (by simp [results, Tryd.results11, go_sem, a0, a1, a2, a3, a4, a5, a6]) rfl ?_
        refine ⟨Or.inr ⟨HNG.out, rfl⟩, ?_⟩
        (repeat' (first | apply Below.setCell | exact K3)) <;> first | (simp; done) | (simp; omega)
      · have g1 : ¬ (k : Int) < 6 := by omega
        obtain ⟨gl, cl, rfl⟩ := Gt.own_pos O (by omega)
        have HX : Hid (∀ i, i < k → wc.cell? ⟨gl, i, none⟩ = some (.int .i64 ((vl (wd ws i) : Nat) : Int))) := fun i hi => by
          obtain ⟨g', cap', e, -, -, u, hu, hc⟩ := own_at O i hi
          simp only [Value.slice.injEq, Option.some.injEq, Addr.mk.injEq] at e
          rw [lN_at ws k i hi] at hu
          rw [e.1.1, hc, ← hu]
        have hgl : gl < wc.heap.size := by
          obtain ⟨g', cap', e, -, h, -⟩ := own_at O 0 (by omega)
          simp only [Value.slice.injEq, Option.some.injEq, Addr.mk.injEq] at e
          omega
        have hglB : w1.heap.size ≤ gl := by
          obtain ⟨g', cap', e, h, -⟩ := own_at O 0 (by omega)
          simp only [Value.slice.injEq, Option.some.injEq, Addr.mk.injEq] at e
          omega
        have x5 := HX.out 5 (by omega)
        have hb5 : vl (wd ws 5) ≤ 999999999 := Gt.vl_bd (HST.out.rd 5 (by omega))
        have h5k : (5 : Int) < (k : Int) := by omega
        by_cases hk : k = 6 + 4 * vl (wd ws 5)
        · have HKE : Hid (k = 6 + 4 * vl (wd ws 5)) := hk
          have hkI : ((k : Int) != 6 + 4 * ((vl (wd ws 5) : Nat) : Int)) = false := by rw [bne_eq_false_iff_eq]; omega
          have HHW : Hid (hW ws = ⟨(vl (wd ws 0) : Nat), (vl (wd ws 1) : Nat), (vl (wd ws 2) : Nat), (vl (wd ws 3) : Nat), (vl (wd ws 4) : Nat)⟩) := rfl
          have HUN : Hid (∀ t nm ls, Good s t nm ls → hW ws = t ∧ nmW s k = nm ∧ rsW ws (vl (wd ws 5)) = ls) := fun t nm ls G => by
            obtain ⟨-, q2, q3, q4, q5⟩ := HSG.out k HST.out t nm ls G
            exact ⟨q3, q4, by rw [q2]; exact q5⟩
          have hAL := HAL.out k hkw
          have HNK : Hid (_) := HNM.out k
          have hsl : ∀ W, (Instr.slice 9 (.string s) (some (.int .i64 (atN ws k : Int))) none none).run Tryd.prog W = .ok (.string (nmW s k)) W := fun W => by
            rw [HNK.out]
            have hA : ((atN ws k : Nat) : Int) ≤ (s.size : Int) := by omega
            simp [go_sem, Tryd.underlying9, hA]
            try omega
          have hnz : (nmW s k).size ≤ s.size := by rw [HNK.out, ByteArray.size_extract]; omega
          have x0 := HX.out 0 (by omega)
          have x1 := HX.out 1 (by omega)
          have x2 := HX.out 2 (by omega)
          have x3 := HX.out 3 (by omega)
          have x4 := HX.out 4 (by omega)
          have e0 := World.new_ne wc ⟨gl, 0, none⟩ x0
          have hv5 : vl (wd ws 5) ≤ 6 := by omega
          have hk0 : 0 < k := by omega
          have hk1 : (1 : Int) < (k : Int) := by omega
          have hk2 : (2 : Int) < (k : Int) := by omega
          have hk3 : (3 : Int) < (k : Int) := by omega
          have hk4 : (4 : Int) < (k : Int) := by omega
          have hA0 : (0 : Int) ≤ ((atN ws k : Nat) : Int) := by omega
          have hA1 : ((atN ws k : Nat) : Int) ≤ (s.size : Int) := by omega
          clear HSG hAL HAL HNM hk
          have hnm : s.extract (atN ws k) s.size = nmW s k := HNK.out.symm
          generalize nmW s k = nm at *
          generalize atN ws k = ak at *
          generalize vl (wd ws 0) = n0 at *
          generalize vl (wd ws 1) = n1 at *
          generalize vl (wd ws 2) = n2 at *
          generalize vl (wd ws 3) = n3 at *
          generalize vl (wd ws 4) = n4 at *
          generalize vl (wd ws 5) = n5 at *
          go_wp2
          refine wp_region_held_drew (S := (fun w' => w'.cell? ⟨gl, 0, none⟩ = some (.int .i64 (n0 : Int)) ∧ w'.cell? ⟨gl, 1, none⟩ = some (.int .i64 (n1 : Int)) ∧ w'.cell? ⟨gl, 2, none⟩ = some (.int .i64 (n2 : Int)) ∧ w'.cell? ⟨gl, 3, none⟩ = some (.int .i64 (n3 : Int)) ∧ w'.cell? ⟨gl, 4, none⟩ = some (.int .i64 (n4 : Int)))) (by kernel_rfl) ?_ (fun hHeld => ?_)
          · exact ⟨x0, x1, x2, x3, x4⟩
          refine wpAnyH_take (i := 0) (oi := { dst := some 81, op := Op.move (Operand.tmp 5), type := 38, pos := "l10_log.go:85", after := #[], guard := none }) (v := ?_) rfl (by kernel_rfl) (by kernel_rfl) (by kernel_rfl) (fun _ _ _ h => h) (Or.inl ⟨by rfl, ?_⟩) (by assumption) ?_
          rotate_left 1
          · (intro wS hSw; (try dsimp only at hSw); go_simp; try (with_reducible rfl))
          (try simp only [Act.put, List.setIfInBounds_toArray, List.set_cons_zero, List.set_cons_succ])
          refine wpAnyH_take (i := 1) (oi := { dst := some 82, op := Op.indexAddr 38 (Operand.tmp 81) (Operand.const (Value.int IntKind.i64 0)), type := 0, pos := "l10_log.go:85", after := #[{ on := 0, ground := Ground.data }], guard := none }) (v := ?_) rfl (by kernel_rfl) (by kernel_rfl) (by kernel_rfl) (fun _ _ _ h => h) (Or.inl ⟨by rfl, ?_⟩) (by assumption) ?_
          rotate_left 1
          · (intro wS hSw; (try dsimp only at hSw); go_simp; try (with_reducible rfl))
          (try simp only [Act.put, List.setIfInBounds_toArray, List.set_cons_zero, List.set_cons_succ])
          refine wpAnyH_take (i := 2) (oi := { dst := some 83, op := Op.load 3 (Operand.tmp 82), type := 3, pos := "l10_log.go:85", after := #[{ on := 1, ground := Ground.data }], guard := none }) (v := ?_) rfl (by kernel_rfl) (by kernel_rfl) (by kernel_rfl) (fun _ _ _ h => h) (Or.inl ⟨by rfl, ?_⟩) (by assumption) ?_
          rotate_left 1
          · (intro wS hSw; (try dsimp only at hSw); go_simp; try (with_reducible rfl))
          (try simp only [Act.put, List.setIfInBounds_toArray, List.set_cons_zero, List.set_cons_succ])
          refine wpAnyH_take (i := 3) (oi := { dst := some 84, op := Op.move (Operand.tmp 5), type := 38, pos := "l10_log.go:85", after := #[], guard := none }) (v := ?_) rfl (by kernel_rfl) (by kernel_rfl) (by kernel_rfl) (fun _ _ _ h => h) (Or.inl ⟨by rfl, ?_⟩) (by assumption) ?_
          rotate_left 1
          · (intro wS hSw; (try dsimp only at hSw); go_simp; try (with_reducible rfl))
          (try simp only [Act.put, List.setIfInBounds_toArray, List.set_cons_zero, List.set_cons_succ])
          refine wpAnyH_take (i := 4) (oi := { dst := some 85, op := Op.indexAddr 38 (Operand.tmp 84) (Operand.const (Value.int IntKind.i64 1)), type := 0, pos := "l10_log.go:85", after := #[{ on := 3, ground := Ground.data }], guard := none }) (v := ?_) rfl (by kernel_rfl) (by kernel_rfl) (by kernel_rfl) (fun _ _ _ h => h) (Or.inl ⟨by rfl, ?_⟩) (by assumption) ?_
          rotate_left 1
          · (intro wS hSw; (try dsimp only at hSw); go_simp; try (with_reducible rfl))
          (try simp only [Act.put, List.setIfInBounds_toArray, List.set_cons_zero, List.set_cons_succ])
          refine wpAnyH_take (i := 5) (oi := { dst := some 86, op := Op.load 3 (Operand.tmp 85), type := 3, pos := "l10_log.go:85", after := #[{ on := 4, ground := Ground.data }], guard := none }) (v := ?_) rfl (by kernel_rfl) (by kernel_rfl) (by kernel_rfl) (fun _ _ _ h => h) (Or.inl ⟨by rfl, ?_⟩) (by assumption) ?_
          rotate_left 1
          · (intro wS hSw; (try dsimp only at hSw); go_simp; try (with_reducible rfl))
          (try simp only [Act.put, List.setIfInBounds_toArray, List.set_cons_zero, List.set_cons_succ])
          refine wpAnyH_take (i := 6) (oi := { dst := some 87, op := Op.move (Operand.tmp 5), type := 38, pos := "l10_log.go:85", after := #[], guard := none }) (v := ?_) rfl (by kernel_rfl) (by kernel_rfl) (by kernel_rfl) (fun _ _ _ h => h) (Or.inl ⟨by rfl, ?_⟩) (by assumption) ?_
          rotate_left 1
          · (intro wS hSw; (try dsimp only at hSw); go_simp; try (with_reducible rfl))
          (try simp only [Act.put, List.setIfInBounds_toArray, List.set_cons_zero, List.set_cons_succ])
          refine wpAnyH_take (i := 7) (oi := { dst := some 88, op := Op.indexAddr 38 (Operand.tmp 87) (Operand.const (Value.int IntKind.i64 2)), type := 0, pos := "l10_log.go:85", after := #[{ on := 6, ground := Ground.data }], guard := none }) (v := ?_) rfl (by kernel_rfl) (by kernel_rfl) (by kernel_rfl) (fun _ _ _ h => h) (Or.inl ⟨by rfl, ?_⟩) (by assumption) ?_
          rotate_left 1
          · (intro wS hSw; (try dsimp only at hSw); go_simp; try (with_reducible rfl))
          (try simp only [Act.put, List.setIfInBounds_toArray, List.set_cons_zero, List.set_cons_succ])
          refine wpAnyH_take (i := 8) (oi := { dst := some 89, op := Op.load 3 (Operand.tmp 88), type := 3, pos := "l10_log.go:85", after := #[{ on := 7, ground := Ground.data }], guard := none }) (v := ?_) rfl (by kernel_rfl) (by kernel_rfl) (by kernel_rfl) (fun _ _ _ h => h) (Or.inl ⟨by rfl, ?_⟩) (by assumption) ?_
          rotate_left 1
          · (intro wS hSw; (try dsimp only at hSw); go_simp; try (with_reducible rfl))
          (try simp only [Act.put, List.setIfInBounds_toArray, List.set_cons_zero, List.set_cons_succ])
          refine wpAnyH_take (i := 9) (oi := { dst := some 90, op := Op.move (Operand.tmp 5), type := 38, pos := "l10_log.go:85", after := #[], guard := none }) (v := ?_) rfl (by kernel_rfl) (by kernel_rfl) (by kernel_rfl) (fun _ _ _ h => h) (Or.inl ⟨by rfl, ?_⟩) (by assumption) ?_
          rotate_left 1
          · (intro wS hSw; (try dsimp only at hSw); go_simp; try (with_reducible rfl))
          (try simp only [Act.put, List.setIfInBounds_toArray, List.set_cons_zero, List.set_cons_succ])
          refine wpAnyH_take (i := 10) (oi := { dst := some 91, op := Op.indexAddr 38 (Operand.tmp 90) (Operand.const (Value.int IntKind.i64 3)), type := 0, pos := "l10_log.go:85", after := #[{ on := 9, ground := Ground.data }], guard := none }) (v := ?_) rfl (by kernel_rfl) (by kernel_rfl) (by kernel_rfl) (fun _ _ _ h => h) (Or.inl ⟨by rfl, ?_⟩) (by assumption) ?_
          rotate_left 1
          · (intro wS hSw; (try dsimp only at hSw); go_simp; try (with_reducible rfl))
          (try simp only [Act.put, List.setIfInBounds_toArray, List.set_cons_zero, List.set_cons_succ])
          refine wpAnyH_take (i := 11) (oi := { dst := some 92, op := Op.load 3 (Operand.tmp 91), type := 3, pos := "l10_log.go:85", after := #[{ on := 10, ground := Ground.data }], guard := none }) (v := ?_) rfl (by kernel_rfl) (by kernel_rfl) (by kernel_rfl) (fun _ _ _ h => h) (Or.inl ⟨by rfl, ?_⟩) (by assumption) ?_
          rotate_left 1
          · (intro wS hSw; (try dsimp only at hSw); go_simp; try (with_reducible rfl))
          (try simp only [Act.put, List.setIfInBounds_toArray, List.set_cons_zero, List.set_cons_succ])
          refine wpAnyH_take (i := 12) (oi := { dst := some 93, op := Op.move (Operand.tmp 5), type := 38, pos := "l10_log.go:85", after := #[], guard := none }) (v := ?_) rfl (by kernel_rfl) (by kernel_rfl) (by kernel_rfl) (fun _ _ _ h => h) (Or.inl ⟨by rfl, ?_⟩) (by assumption) ?_
          rotate_left 1
          · (intro wS hSw; (try dsimp only at hSw); go_simp; try (with_reducible rfl))
          (try simp only [Act.put, List.setIfInBounds_toArray, List.set_cons_zero, List.set_cons_succ])
          refine wpAnyH_take (i := 13) (oi := { dst := some 94, op := Op.indexAddr 38 (Operand.tmp 93) (Operand.const (Value.int IntKind.i64 4)), type := 0, pos := "l10_log.go:85", after := #[{ on := 12, ground := Ground.data }], guard := none }) (v := ?_) rfl (by kernel_rfl) (by kernel_rfl) (by kernel_rfl) (fun _ _ _ h => h) (Or.inl ⟨by rfl, ?_⟩) (by assumption) ?_
          rotate_left 1
          · (intro wS hSw; (try dsimp only at hSw); go_simp; try (with_reducible rfl))
          (try simp only [Act.put, List.setIfInBounds_toArray, List.set_cons_zero, List.set_cons_succ])
          refine wpAnyH_take (i := 14) (oi := { dst := some 95, op := Op.load 3 (Operand.tmp 94), type := 3, pos := "l10_log.go:85", after := #[{ on := 13, ground := Ground.data }], guard := none }) (v := ?_) rfl (by kernel_rfl) (by kernel_rfl) (by kernel_rfl) (fun _ _ _ h => h) (Or.inl ⟨by rfl, ?_⟩) (by assumption) ?_
          rotate_left 1
          · (intro wS hSw; (try dsimp only at hSw); go_simp; try (with_reducible rfl))
          (try simp only [Act.put, List.setIfInBounds_toArray, List.set_cons_zero, List.set_cons_succ])
          refine wpAnyH_take (i := 15) (oi := { dst := some 96, op := Op.move (Operand.tmp 0), type := 9, pos := "l10_log.go:85", after := #[], guard := none }) (v := ?_) rfl (by kernel_rfl) (by kernel_rfl) (by kernel_rfl) (fun _ _ _ h => h) (Or.inl ⟨by rfl, ?_⟩) (by assumption) ?_
          rotate_left 1
          · (intro wS hSw; (try dsimp only at hSw); go_simp; try (with_reducible rfl))
          (try simp only [Act.put, List.setIfInBounds_toArray, List.set_cons_zero, List.set_cons_succ])
          refine wpAnyH_take (i := 16) (oi := { dst := some 97, op := Op.move (Operand.tmp 6), type := 3, pos := "l10_log.go:85", after := #[], guard := none }) (v := ?_) rfl (by kernel_rfl) (by kernel_rfl) (by kernel_rfl) (fun _ _ _ h => h) (Or.inl ⟨by rfl, ?_⟩) (by assumption) ?_
          rotate_left 1
          · (intro wS hSw; (try dsimp only at hSw); go_simp; try (with_reducible rfl))
          (try simp only [Act.put, List.setIfInBounds_toArray, List.set_cons_zero, List.set_cons_succ])
          refine wpAnyH_take (i := 17) (oi := { dst := some 98, op := Op.slice 9 (Operand.tmp 96) (some (Operand.tmp 97)) none none, type := 9, pos := "l10_log.go:85", after := #[{ on := 15, ground := Ground.data }, { on := 16, ground := Ground.data }], guard := none }) (v := ?_) rfl (by kernel_rfl) (by kernel_rfl) (by kernel_rfl) (fun _ _ _ h => h) (Or.inl ⟨by rfl, ?_⟩) (by assumption) ?_
          rotate_left 1
          · (intro wS hSw; (try dsimp only at hSw); go_simp; try (with_reducible rfl))
          (try simp only [Act.put, List.setIfInBounds_toArray, List.set_cons_zero, List.set_cons_succ])
          refine wpAnyH_take (i := 18) (oi := { dst := some 99, op := Op.build 26 #[(0, Operand.tmp 83), (1, Operand.tmp 86), (2, Operand.tmp 89), (4, Operand.tmp 92), (5, Operand.tmp 95), (3, Operand.tmp 98)], type := 26, pos := "l10_log.go:85", after := #[{ on := 2, ground := Ground.data }, { on := 5, ground := Ground.data }, { on := 8, ground := Ground.data }, { on := 11, ground := Ground.data }, { on := 14, ground := Ground.data }, { on := 17, ground := Ground.data }], guard := none }) (v := ?_) rfl (by kernel_rfl) (by kernel_rfl) (by kernel_rfl) (fun _ _ _ h => h) (Or.inl ⟨by rfl, ?_⟩) (by assumption) ?_
          rotate_left 1
          · (intro wS hSw; (try dsimp only at hSw); go_simp; try (with_reducible rfl))
          (try simp only [Act.put, List.setIfInBounds_toArray, List.set_cons_zero, List.set_cons_succ])
          refine wpAnyH_ready (rs := [19]) (by kernel_rfl) (by simp) ?_
          refine AllReadyH.cons (o := { dst := some 10, op := Op.alloc 26, type := 0, pos := "l10_log.go:85", after := #[], guard := none }) rfl (fun K hK => ?_) AllReadyH.nil
          go_simp
          have yy0 : (wc.alloc (.cells #[.int .i64 0, .int .i64 0, .int .i64 0, .string ⟨#[]⟩, .int .i64 0, .int .i64 0, .slice none 0 0] 26)).cell? ⟨gl, 0, none⟩ = some (.int .i64 (n0 : Int)) := by rw [(new_below wc _).cell (p := ⟨gl, 0, none⟩) hgl]; exact x0
          have yy1 : (wc.alloc (.cells #[.int .i64 0, .int .i64 0, .int .i64 0, .string ⟨#[]⟩, .int .i64 0, .int .i64 0, .slice none 0 0] 26)).cell? ⟨gl, 1, none⟩ = some (.int .i64 (n1 : Int)) := by rw [(new_below wc _).cell (p := ⟨gl, 1, none⟩) hgl]; exact x1
          have yy2 : (wc.alloc (.cells #[.int .i64 0, .int .i64 0, .int .i64 0, .string ⟨#[]⟩, .int .i64 0, .int .i64 0, .slice none 0 0] 26)).cell? ⟨gl, 2, none⟩ = some (.int .i64 (n2 : Int)) := by rw [(new_below wc _).cell (p := ⟨gl, 2, none⟩) hgl]; exact x2
          have yy3 : (wc.alloc (.cells #[.int .i64 0, .int .i64 0, .int .i64 0, .string ⟨#[]⟩, .int .i64 0, .int .i64 0, .slice none 0 0] 26)).cell? ⟨gl, 3, none⟩ = some (.int .i64 (n3 : Int)) := by rw [(new_below wc _).cell (p := ⟨gl, 3, none⟩) hgl]; exact x3
          have yy4 : (wc.alloc (.cells #[.int .i64 0, .int .i64 0, .int .i64 0, .string ⟨#[]⟩, .int .i64 0, .int .i64 0, .slice none 0 0] 26)).cell? ⟨gl, 4, none⟩ = some (.int .i64 (n4 : Int)) := by rw [(new_below wc _).cell (p := ⟨gl, 4, none⟩) hgl]; exact x4
          refine hK.out _ _ ?_ (fun hHeld => ?_)
          · exact ⟨yy0, yy1, yy2, yy3, yy4⟩
          clear hK K
          (try simp only [Act.put, List.setIfInBounds_toArray, List.set_cons_zero, List.set_cons_succ])
          refine wpAnyH_ready (rs := [20]) (by kernel_rfl) (by simp) ?_
          refine AllReadyH.cons (o := { dst := none, op := Op.store 26 (Operand.tmp 10) (Operand.tmp 99), type := 0, pos := "l10_log.go:85", after := #[{ on := 19, ground := Ground.data }, { on := 18, ground := Ground.data }, { on := 0, ground := Ground.phase }, { on := 1, ground := Ground.phase }, { on := 2, ground := Ground.phase }, { on := 3, ground := Ground.phase }, { on := 4, ground := Ground.phase }, { on := 5, ground := Ground.phase }, { on := 6, ground := Ground.phase }, { on := 7, ground := Ground.phase }, { on := 8, ground := Ground.phase }, { on := 9, ground := Ground.phase }, { on := 10, ground := Ground.phase }, { on := 11, ground := Ground.phase }, { on := 12, ground := Ground.phase }, { on := 13, ground := Ground.phase }, { on := 14, ground := Ground.phase }, { on := 15, ground := Ground.phase }, { on := 16, ground := Ground.phase }, { on := 17, ground := Ground.phase }, { on := 18, ground := Ground.phase }, { on := 19, ground := Ground.phase }], guard := none }) rfl (fun K hK => ?_) AllReadyH.nil
          go_simp
          have zz0 : (wc.alloc (.cells #[.int .i64 (n0 : Int), .int .i64 (n1 : Int), .int .i64 (n2 : Int), .string nm, .int .i64 (n3 : Int), .int .i64 (n4 : Int), .slice none 0 0] 26)).cell? ⟨gl, 0, none⟩ = some (.int .i64 (n0 : Int)) := by rw [(new_below wc _).cell (p := ⟨gl, 0, none⟩) hgl]; exact x0
          have zz1 : (wc.alloc (.cells #[.int .i64 (n0 : Int), .int .i64 (n1 : Int), .int .i64 (n2 : Int), .string nm, .int .i64 (n3 : Int), .int .i64 (n4 : Int), .slice none 0 0] 26)).cell? ⟨gl, 1, none⟩ = some (.int .i64 (n1 : Int)) := by rw [(new_below wc _).cell (p := ⟨gl, 1, none⟩) hgl]; exact x1
          have zz2 : (wc.alloc (.cells #[.int .i64 (n0 : Int), .int .i64 (n1 : Int), .int .i64 (n2 : Int), .string nm, .int .i64 (n3 : Int), .int .i64 (n4 : Int), .slice none 0 0] 26)).cell? ⟨gl, 2, none⟩ = some (.int .i64 (n2 : Int)) := by rw [(new_below wc _).cell (p := ⟨gl, 2, none⟩) hgl]; exact x2
          have zz3 : (wc.alloc (.cells #[.int .i64 (n0 : Int), .int .i64 (n1 : Int), .int .i64 (n2 : Int), .string nm, .int .i64 (n3 : Int), .int .i64 (n4 : Int), .slice none 0 0] 26)).cell? ⟨gl, 3, none⟩ = some (.int .i64 (n3 : Int)) := by rw [(new_below wc _).cell (p := ⟨gl, 3, none⟩) hgl]; exact x3
          have zz4 : (wc.alloc (.cells #[.int .i64 (n0 : Int), .int .i64 (n1 : Int), .int .i64 (n2 : Int), .string nm, .int .i64 (n3 : Int), .int .i64 (n4 : Int), .slice none 0 0] 26)).cell? ⟨gl, 4, none⟩ = some (.int .i64 (n4 : Int)) := by rw [(new_below wc _).cell (p := ⟨gl, 4, none⟩) hgl]; exact x4
          refine hK.out _ _ ?_ (fun hHeld => ?_)
          · exact ⟨zz0, zz1, zz2, zz3, zz4⟩
          clear hK K
          (try simp only [Act.put, List.setIfInBounds_toArray, List.set_cons_zero, List.set_cons_succ])
          refine wpAnyH_done (by kernel_rfl) ?_ _
          obtain ⟨cur, hcur, htk, -, -⟩ := Gt.own_blk O
          have HXC : Hid (∀ i, i < k → cur[i]? = some (.int .i64 ((vl (wd ws i) : Nat) : Int))) := fun i hi => by
            have := lN_at ws k i hi
            rw [← htk, List.getElem?_take, if_pos hi, Array.getElem?_toList] at this
            exact this
          have mT := heap_new wc (.cells #[.int .i64 (n0 : Int), .int .i64 (n1 : Int), .int .i64 (n2 : Int), .string nm, .int .i64 (n3 : Int), .int .i64 (n4 : Int), .slice none 0 0] 26)
          have NT := new_below wc (.cells #[.int .i64 (n0 : Int), .int .i64 (n1 : Int), .int .i64 (n2 : Int), .string nm, .int .i64 (n3 : Int), .int .i64 (n4 : Int), .slice none 0 0] 26)
          have m4 := kept NT (lt_of m3) m3
          have mG := kept NT hgl hcur
          have K4 := (join_below K3 NT).drew
          have hTR : wc.heap.size ≠ w.heap.size := by have := lt_of m3; omega
          have hTge : w.heap.size ≤ wc.heap.size := K3.size
          have hTx : wc.heap.size ≠ gl := by omega
          have HRL : Hid (∀ n, (rsW ws n).length = n) := fun n => rsW_length ws n
          have HRS : Hid (∀ n, rsW ws (n + 1) = rsW ws n ++ [rW ws n]) := fun n => rsW_step ws n
          have HWL : Hid (∀ W (a : Option Addr) (lc : Nat), Rides W a (rsW ws n5) → _) := fun W a lc h1 => specWantLine_val (hW ws) nm a (rsW ws n5) lc W (by unfold maxLen; omega) (by rw [rsW_length]; omega) h1
          unfold wnV at HWL
          rw [rsW_length] at HWL
          clear m3 K3 NT x0 x1 x2 x3 x4 x5 yy0 yy1 yy2 yy3 yy4 zz0 zz1 zz2 zz3 zz4 e0 HX hcur htk O L hHeld hnm hsl hkI hA0 hA1 hk0 hk1 hk2 hk3 hk4 hb5 h5k
          generalize wc.alloc (.cells #[.int .i64 (n0 : Int), .int .i64 (n1 : Int), .int .i64 (n2 : Int), .string nm, .int .i64 (n3 : Int), .int .i64 (n4 : Int), .slice none 0 0] 26) = W3 at *
          generalize wc.heap.size = T at *
          go_wp2
          go_loopw [11] (fun i wr => ∃ (j q : Nat) (a : Option Addr) (lc : Nat), i = .int .i64 q ∧ Hid (q = 6 + 4 * j) ∧ q ≤ k ∧ j ≤ n5 ∧ wr.heap[w.heap.size]? = some (.cells #[.int .i64 0, .int .i64 0, .int .i64 0, .string ⟨#[]⟩, .int .i64 0, .int .i64 0, .slice none 0 0] 26) ∧ wr.heap[T]? = some (.cells #[.int .i64 (n0 : Int), .int .i64 (n1 : Int), .int .i64 (n2 : Int), .string nm, .int .i64 (n3 : Int), .int .i64 (n4 : Int), .slice a j lc] 26) ∧ wr.heap[gl]? = some (.cells cur 3) ∧ wr.ownsRow w.heap.size 43 4 (.slice a j lc) j (qcells (rsW ws j)) ∧ Hid (Below w.heap.size w wr)) (fun i _ => k - (intOf i).toNat)
          case atStart => exact ⟨0, 6, none, 0, rfl, rfl, by omega, by omega, m4, mT, mG, ⟨rfl, Or.inl ⟨rfl, rfl⟩⟩, K4⟩
          case round =>
            clear m4 mT mG K4
            obtain ⟨j, q, la, lc, rfl, HQ, hqk, hj5, m5, mT5, mG5, O5, K5⟩ := hrel
            have hkk := HKE.out
            have hqq := HQ.out
            by_cases hlt : q < k
            · have hqI : (q : Int) < (k : Int) := by omega
              have q0I : (0 : Int) ≤ (q : Int) := by omega
              have b1 : (q : Int) + 1 < (k : Int) := by omega
              have b2 : (q : Int) + 2 < (k : Int) := by omega
              have b3 : (q : Int) + 3 < (k : Int) := by omega
              have c1' : (0 : Int) ≤ (q : Int) + 1 := by omega
              have c2' : (0 : Int) ≤ (q : Int) + 2 := by omega
              have c3' : (0 : Int) ≤ (q : Int) + 3 := by omega
              have t1' : ((q : Int) + 1).toNat = q + 1 := by omega
              have t2' : ((q : Int) + 2).toNat = q + 2 := by omega
              have t3' : ((q : Int) + 3).toNat = q + 3 := by omega
              have w1' : IntKind.i64.wrap ((q : Int) + 1) = (q : Int) + 1 := by rw [IntKind.wrap_i64]; omega
              have w2' : IntKind.i64.wrap ((q : Int) + 2) = (q : Int) + 2 := by rw [IntKind.wrap_i64]; omega
              have w3' : IntKind.i64.wrap ((q : Int) + 3) = (q : Int) + 3 := by rw [IntKind.wrap_i64]; omega
              have w4' : IntKind.i64.wrap ((q : Int) + 4) = (q : Int) + 4 := by rw [IntKind.wrap_i64]; omega
              have x0 : wr.cell? ⟨gl, q, none⟩ = some (.int .i64 ((vl (wd ws q) : Nat) : Int)) := (cell_at mG5 q).trans (HXC.out q (by omega))
              have x1 : wr.cell? ⟨gl, q + 1, none⟩ = some (.int .i64 ((vl (wd ws (q + 1)) : Nat) : Int)) := (cell_at mG5 (q + 1)).trans (HXC.out (q + 1) (by omega))
              have x2 : wr.cell? ⟨gl, q + 2, none⟩ = some (.int .i64 ((vl (wd ws (q + 2)) : Nat) : Int)) := (cell_at mG5 (q + 2)).trans (HXC.out (q + 2) (by omega))
              have x3 : wr.cell? ⟨gl, q + 3, none⟩ = some (.int .i64 ((vl (wd ws (q + 3)) : Nat) : Int)) := (cell_at mG5 (q + 3)).trans (HXC.out (q + 3) (by omega))
              have HRJ : Hid (rsW ws (j + 1) = rsW ws j ++ [⟨(vl (wd ws q) : Nat), (vl (wd ws (q + 1)) : Nat), (vl (wd ws (q + 2)) : Nat), (vl (wd ws (q + 3)) : Nat)⟩]) := by
                show _ = _
                rw [HRS.out, hqq]
                rfl
              have hj6 : j + 1 ≤ n5 := by omega
              have HQ4 : Hid (q + 4 = 6 + 4 * (j + 1)) := by show _ = _; omega
              have hq4 : q + 4 ≤ k := by omega
              clear hkk hqq
              generalize vl (wd ws q) = p0 at *
              generalize vl (wd ws (q + 1)) = p1 at *
              generalize vl (wd ws (q + 2)) = p2 at *
              generalize vl (wd ws (q + 3)) = p3 at *
              have tx : wr.cell? ⟨T, 6, none⟩ = some (.slice la j lc) := cell_at mT5 6
              have txA : (wr.alloc (.cells #[.int .i64 (p0 : Int), .int .i64 (p1 : Int), .int .i64 (p2 : Int), .int .i64 (p3 : Int)] 43)).cell? ⟨T, 6, none⟩ = some (.slice la j lc) := cell_at (heap_old mT5 _) 6
              have aT : (Value.slice la j lc).ownBlock ≠ some T := Pk.own_ne' O5 mT5 (by decide)
              have aX : (Value.slice la j lc).ownBlock ≠ some gl := Pk.own_ne' O5 mG5 (by decide)
              have aR : (Value.slice la j lc).ownBlock ≠ some w.heap.size := Pk.own_ne' O5 m5 (by decide)
              have htl : T < wr.heap.size := lt_of mT5
              have hgl5 : gl < wr.heap.size := lt_of mG5
              have hkm : j + 1 ≤ maxLen := by unfold maxLen; omega
              have hkb : (j + 1) * 32 ≤ 140737488355328 := by omega
              have hbs : w.heap.size ≤ wr.heap.size := K5.out.size
              go_wp2
              refine wp_region_held_drew (S := (fun w' => w'.cell? ⟨gl, q, none⟩ = some (.int .i64 (p0 : Int)) ∧ w'.cell? ⟨gl, q + 1, none⟩ = some (.int .i64 (p1 : Int)) ∧ w'.cell? ⟨gl, q + 2, none⟩ = some (.int .i64 (p2 : Int)) ∧ w'.cell? ⟨gl, q + 3, none⟩ = some (.int .i64 (p3 : Int)))) (by kernel_rfl) ?_ (fun hHeld => ?_)
              · exact ⟨x0, x1, x2, x3⟩
              refine wpAnyH_take (i := 0) (oi := { dst := some 106, op := Op.fieldAddr 26 (Operand.tmp 10) 6, type := 0, pos := "l10_log.go:87", after := #[], guard := none }) (v := ?_) rfl (by kernel_rfl) (by kernel_rfl) (by kernel_rfl) (fun _ _ _ h => h) (Or.inl ⟨by rfl, ?_⟩) (by assumption) ?_
              rotate_left 1
              · (intro wS hSw; (try dsimp only at hSw); go_simp; try (with_reducible rfl))
              (try simp only [Act.put, List.setIfInBounds_toArray, List.set_cons_zero, List.set_cons_succ])
              refine wpAnyH_take (i := 2) (oi := { dst := some 108, op := Op.move (Operand.tmp 5), type := 38, pos := "l10_log.go:87", after := #[], guard := none }) (v := ?_) rfl (by kernel_rfl) (by kernel_rfl) (by kernel_rfl) (fun _ _ _ h => h) (Or.inl ⟨by rfl, ?_⟩) (by assumption) ?_
              rotate_left 1
              · (intro wS hSw; (try dsimp only at hSw); go_simp; try (with_reducible rfl))
              (try simp only [Act.put, List.setIfInBounds_toArray, List.set_cons_zero, List.set_cons_succ])
              refine wpAnyH_take (i := 3) (oi := { dst := some 109, op := Op.move (Operand.tmp 11), type := 3, pos := "l10_log.go:87", after := #[], guard := none }) (v := ?_) rfl (by kernel_rfl) (by kernel_rfl) (by kernel_rfl) (fun _ _ _ h => h) (Or.inl ⟨by rfl, ?_⟩) (by assumption) ?_
              rotate_left 1
              · (intro wS hSw; (try dsimp only at hSw); go_simp; try (with_reducible rfl))
              (try simp only [Act.put, List.setIfInBounds_toArray, List.set_cons_zero, List.set_cons_succ])
              refine wpAnyH_take (i := 4) (oi := { dst := some 110, op := Op.indexAddr 38 (Operand.tmp 108) (Operand.tmp 109), type := 0, pos := "l10_log.go:87", after := #[{ on := 2, ground := Ground.data }, { on := 3, ground := Ground.data }], guard := none }) (v := ?_) rfl (by kernel_rfl) (by kernel_rfl) (by kernel_rfl) (fun _ _ _ h => h) (Or.inl ⟨by rfl, ?_⟩) (by assumption) ?_
              rotate_left 1
              · (intro wS hSw; (try dsimp only at hSw); go_simp; try (with_reducible rfl))
              (try simp only [Act.put, List.setIfInBounds_toArray, List.set_cons_zero, List.set_cons_succ])
              refine wpAnyH_take (i := 5) (oi := { dst := some 111, op := Op.load 3 (Operand.tmp 110), type := 3, pos := "l10_log.go:87", after := #[{ on := 4, ground := Ground.data }], guard := none }) (v := ?_) rfl (by kernel_rfl) (by kernel_rfl) (by kernel_rfl) (fun _ _ _ h => h) (Or.inl ⟨by rfl, ?_⟩) (by assumption) ?_
              rotate_left 1
              · (intro wS hSw; (try dsimp only at hSw); go_simp; try (with_reducible rfl))
              (try simp only [Act.put, List.setIfInBounds_toArray, List.set_cons_zero, List.set_cons_succ])
              refine wpAnyH_take (i := 6) (oi := { dst := some 112, op := Op.move (Operand.tmp 5), type := 38, pos := "l10_log.go:87", after := #[], guard := none }) (v := ?_) rfl (by kernel_rfl) (by kernel_rfl) (by kernel_rfl) (fun _ _ _ h => h) (Or.inl ⟨by rfl, ?_⟩) (by assumption) ?_
              rotate_left 1
              · (intro wS hSw; (try dsimp only at hSw); go_simp; try (with_reducible rfl))
              (try simp only [Act.put, List.setIfInBounds_toArray, List.set_cons_zero, List.set_cons_succ])
              refine wpAnyH_take (i := 7) (oi := { dst := some 113, op := Op.move (Operand.tmp 11), type := 3, pos := "l10_log.go:87", after := #[], guard := none }) (v := ?_) rfl (by kernel_rfl) (by kernel_rfl) (by kernel_rfl) (fun _ _ _ h => h) (Or.inl ⟨by rfl, ?_⟩) (by assumption) ?_
              rotate_left 1
              · (intro wS hSw; (try dsimp only at hSw); go_simp; try (with_reducible rfl))
              (try simp only [Act.put, List.setIfInBounds_toArray, List.set_cons_zero, List.set_cons_succ])
              refine wpAnyH_take (i := 8) (oi := { dst := some 114, op := Op.binOp BinOp.add 3 (Operand.tmp 113) (Operand.const (Value.int IntKind.i64 1)) 3, type := 3, pos := "l10_log.go:87", after := #[{ on := 7, ground := Ground.data }], guard := none }) (v := ?_) rfl (by kernel_rfl) (by kernel_rfl) (by kernel_rfl) (fun _ _ _ h => h) (Or.inl ⟨by rfl, ?_⟩) (by assumption) ?_
              rotate_left 1
              · (intro wS hSw; (try dsimp only at hSw); go_simp; try (with_reducible rfl))
              (try simp only [Act.put, List.setIfInBounds_toArray, List.set_cons_zero, List.set_cons_succ])
              refine wpAnyH_take (i := 9) (oi := { dst := some 115, op := Op.indexAddr 38 (Operand.tmp 112) (Operand.tmp 114), type := 0, pos := "l10_log.go:87", after := #[{ on := 6, ground := Ground.data }, { on := 8, ground := Ground.data }], guard := none }) (v := ?_) rfl (by kernel_rfl) (by kernel_rfl) (by kernel_rfl) (fun _ _ _ h => h) (Or.inl ⟨by rfl, ?_⟩) (by assumption) ?_
              rotate_left 1
              · (intro wS hSw; (try dsimp only at hSw); go_simp; try (with_reducible rfl))
              (try simp only [Act.put, List.setIfInBounds_toArray, List.set_cons_zero, List.set_cons_succ])
              refine wpAnyH_take (i := 10) (oi := { dst := some 116, op := Op.load 3 (Operand.tmp 115), type := 3, pos := "l10_log.go:87", after := #[{ on := 9, ground := Ground.data }], guard := none }) (v := ?_) rfl (by kernel_rfl) (by kernel_rfl) (by kernel_rfl) (fun _ _ _ h => h) (Or.inl ⟨by rfl, ?_⟩) (by assumption) ?_
              rotate_left 1
              · (intro wS hSw; (try dsimp only at hSw); go_simp; try (with_reducible rfl))
              (try simp only [Act.put, List.setIfInBounds_toArray, List.set_cons_zero, List.set_cons_succ])
              refine wpAnyH_take (i := 11) (oi := { dst := some 117, op := Op.move (Operand.tmp 5), type := 38, pos := "l10_log.go:87", after := #[], guard := none }) (v := ?_) rfl (by kernel_rfl) (by kernel_rfl) (by kernel_rfl) (fun _ _ _ h => h) (Or.inl ⟨by rfl, ?_⟩) (by assumption) ?_
              rotate_left 1
              · (intro wS hSw; (try dsimp only at hSw); go_simp; try (with_reducible rfl))
              (try simp only [Act.put, List.setIfInBounds_toArray, List.set_cons_zero, List.set_cons_succ])
              refine wpAnyH_take (i := 12) (oi := { dst := some 118, op := Op.move (Operand.tmp 11), type := 3, pos := "l10_log.go:87", after := #[], guard := none }) (v := ?_) rfl (by kernel_rfl) (by kernel_rfl) (by kernel_rfl) (fun _ _ _ h => h) (Or.inl ⟨by rfl, ?_⟩) (by assumption) ?_
              rotate_left 1
              · (intro wS hSw; (try dsimp only at hSw); go_simp; try (with_reducible rfl))
              (try simp only [Act.put, List.setIfInBounds_toArray, List.set_cons_zero, List.set_cons_succ])
              refine wpAnyH_take (i := 13) (oi := { dst := some 119, op := Op.binOp BinOp.add 3 (Operand.tmp 118) (Operand.const (Value.int IntKind.i64 2)) 3, type := 3, pos := "l10_log.go:87", after := #[{ on := 12, ground := Ground.data }], guard := none }) (v := ?_) rfl (by kernel_rfl) (by kernel_rfl) (by kernel_rfl) (fun _ _ _ h => h) (Or.inl ⟨by rfl, ?_⟩) (by assumption) ?_
              rotate_left 1
              · (intro wS hSw; (try dsimp only at hSw); go_simp; try (with_reducible rfl))
              (try simp only [Act.put, List.setIfInBounds_toArray, List.set_cons_zero, List.set_cons_succ])
              refine wpAnyH_take (i := 14) (oi := { dst := some 120, op := Op.indexAddr 38 (Operand.tmp 117) (Operand.tmp 119), type := 0, pos := "l10_log.go:87", after := #[{ on := 11, ground := Ground.data }, { on := 13, ground := Ground.data }], guard := none }) (v := ?_) rfl (by kernel_rfl) (by kernel_rfl) (by kernel_rfl) (fun _ _ _ h => h) (Or.inl ⟨by rfl, ?_⟩) (by assumption) ?_
              rotate_left 1
              · (intro wS hSw; (try dsimp only at hSw); go_simp; try (with_reducible rfl))
              (try simp only [Act.put, List.setIfInBounds_toArray, List.set_cons_zero, List.set_cons_succ])
              refine wpAnyH_take (i := 15) (oi := { dst := some 121, op := Op.load 3 (Operand.tmp 120), type := 3, pos := "l10_log.go:87", after := #[{ on := 14, ground := Ground.data }], guard := none }) (v := ?_) rfl (by kernel_rfl) (by kernel_rfl) (by kernel_rfl) (fun _ _ _ h => h) (Or.inl ⟨by rfl, ?_⟩) (by assumption) ?_
              rotate_left 1
              · (intro wS hSw; (try dsimp only at hSw); go_simp; try (with_reducible rfl))
              (try simp only [Act.put, List.setIfInBounds_toArray, List.set_cons_zero, List.set_cons_succ])
              refine wpAnyH_take (i := 16) (oi := { dst := some 122, op := Op.move (Operand.tmp 5), type := 38, pos := "l10_log.go:87", after := #[], guard := none }) (v := ?_) rfl (by kernel_rfl) (by kernel_rfl) (by kernel_rfl) (fun _ _ _ h => h) (Or.inl ⟨by rfl, ?_⟩) (by assumption) ?_
              rotate_left 1
              · (intro wS hSw; (try dsimp only at hSw); go_simp; try (with_reducible rfl))
              (try simp only [Act.put, List.setIfInBounds_toArray, List.set_cons_zero, List.set_cons_succ])
              refine wpAnyH_take (i := 17) (oi := { dst := some 123, op := Op.move (Operand.tmp 11), type := 3, pos := "l10_log.go:87", after := #[], guard := none }) (v := ?_) rfl (by kernel_rfl) (by kernel_rfl) (by kernel_rfl) (fun _ _ _ h => h) (Or.inl ⟨by rfl, ?_⟩) (by assumption) ?_
              rotate_left 1
              · (intro wS hSw; (try dsimp only at hSw); go_simp; try (with_reducible rfl))
              (try simp only [Act.put, List.setIfInBounds_toArray, List.set_cons_zero, List.set_cons_succ])
              refine wpAnyH_take (i := 18) (oi := { dst := some 124, op := Op.binOp BinOp.add 3 (Operand.tmp 123) (Operand.const (Value.int IntKind.i64 3)) 3, type := 3, pos := "l10_log.go:87", after := #[{ on := 17, ground := Ground.data }], guard := none }) (v := ?_) rfl (by kernel_rfl) (by kernel_rfl) (by kernel_rfl) (fun _ _ _ h => h) (Or.inl ⟨by rfl, ?_⟩) (by assumption) ?_
              rotate_left 1
              · (intro wS hSw; (try dsimp only at hSw); go_simp; try (with_reducible rfl))
              (try simp only [Act.put, List.setIfInBounds_toArray, List.set_cons_zero, List.set_cons_succ])
              refine wpAnyH_take (i := 19) (oi := { dst := some 125, op := Op.indexAddr 38 (Operand.tmp 122) (Operand.tmp 124), type := 0, pos := "l10_log.go:87", after := #[{ on := 16, ground := Ground.data }, { on := 18, ground := Ground.data }], guard := none }) (v := ?_) rfl (by kernel_rfl) (by kernel_rfl) (by kernel_rfl) (fun _ _ _ h => h) (Or.inl ⟨by rfl, ?_⟩) (by assumption) ?_
              rotate_left 1
              · (intro wS hSw; (try dsimp only at hSw); go_simp; try (with_reducible rfl))
              (try simp only [Act.put, List.setIfInBounds_toArray, List.set_cons_zero, List.set_cons_succ])
              refine wpAnyH_take (i := 20) (oi := { dst := some 126, op := Op.load 3 (Operand.tmp 125), type := 3, pos := "l10_log.go:87", after := #[{ on := 19, ground := Ground.data }], guard := none }) (v := ?_) rfl (by kernel_rfl) (by kernel_rfl) (by kernel_rfl) (fun _ _ _ h => h) (Or.inl ⟨by rfl, ?_⟩) (by assumption) ?_
              rotate_left 1
              · (intro wS hSw; (try dsimp only at hSw); go_simp; try (with_reducible rfl))
              (try simp only [Act.put, List.setIfInBounds_toArray, List.set_cons_zero, List.set_cons_succ])
              refine wpAnyH_take (i := 21) (oi := { dst := some 127, op := Op.build 43 #[(0, Operand.tmp 111), (1, Operand.tmp 116), (2, Operand.tmp 121), (3, Operand.tmp 126)], type := 43, pos := "l10_log.go:87", after := #[{ on := 5, ground := Ground.data }, { on := 10, ground := Ground.data }, { on := 15, ground := Ground.data }, { on := 20, ground := Ground.data }], guard := none }) (v := ?_) rfl (by kernel_rfl) (by kernel_rfl) (by kernel_rfl) (fun _ _ _ h => h) (Or.inl ⟨by rfl, ?_⟩) (by assumption) ?_
              rotate_left 1
              · (intro wS hSw; (try dsimp only at hSw); go_simp; try (with_reducible rfl))
              (try simp only [Act.put, List.setIfInBounds_toArray, List.set_cons_zero, List.set_cons_succ])
              have yy0 : (wr.alloc (.cells #[.int .i64 (p0 : Int), .int .i64 (p1 : Int), .int .i64 (p2 : Int), .int .i64 (p3 : Int)] 43)).cell? ⟨gl, q, none⟩ = some (.int .i64 (p0 : Int)) := by rw [(new_below wr _).cell (p := ⟨gl, q, none⟩) hgl5]; exact x0
              have yy1 : (wr.alloc (.cells #[.int .i64 (p0 : Int), .int .i64 (p1 : Int), .int .i64 (p2 : Int), .int .i64 (p3 : Int)] 43)).cell? ⟨gl, q + 1, none⟩ = some (.int .i64 (p1 : Int)) := by rw [(new_below wr _).cell (p := ⟨gl, q + 1, none⟩) hgl5]; exact x1
              have yy2 : (wr.alloc (.cells #[.int .i64 (p0 : Int), .int .i64 (p1 : Int), .int .i64 (p2 : Int), .int .i64 (p3 : Int)] 43)).cell? ⟨gl, q + 2, none⟩ = some (.int .i64 (p2 : Int)) := by rw [(new_below wr _).cell (p := ⟨gl, q + 2, none⟩) hgl5]; exact x2
              have yy3 : (wr.alloc (.cells #[.int .i64 (p0 : Int), .int .i64 (p1 : Int), .int .i64 (p2 : Int), .int .i64 (p3 : Int)] 43)).cell? ⟨gl, q + 3, none⟩ = some (.int .i64 (p3 : Int)) := by rw [(new_below wr _).cell (p := ⟨gl, q + 3, none⟩) hgl5]; exact x3
              refine wpAnyH_ready (rs := [1, 22]) (by kernel_rfl) (by simp) ?_
              refine AllReadyH.cons (o := { dst := some 107, op := Op.load 24 (Operand.tmp 106), type := 24, pos := "l10_log.go:87", after := #[{ on := 0, ground := Ground.data }], guard := none }) rfl (fun K hK => ?_) ?_
              · go_simp
                refine hK.out _ _ ?_ (fun hHeld => ?_)
                · exact ⟨x0, x1, x2, x3⟩
                clear hK K
                (try simp only [Act.put, List.setIfInBounds_toArray, List.set_cons_zero, List.set_cons_succ])
                refine wpAnyH_ready (rs := [22]) (by kernel_rfl) (by simp) ?_
                refine AllReadyH.cons (o := { dst := some 128, op := Op.buildSlice 24 1 #[(0, Operand.tmp 127)], type := 24, pos := "l10_log.go:87", after := #[{ on := 21, ground := Ground.data }], guard := none }) rfl (fun K hK => ?_) AllReadyH.nil
                go_simp
                refine hK.out _ _ ?_ (fun hHeld => ?_)
                · exact ⟨yy0, yy1, yy2, yy3⟩
                clear hK K
                (try simp only [Act.put, List.setIfInBounds_toArray, List.set_cons_zero, List.set_cons_succ])
                refine wpAnyH_ready (rs := [23]) (by kernel_rfl) (by simp) ?_
                refine AllReadyH.cons (o := { dst := some 129, op := Op.call { callee := Callee.builtin Builtin.append, args := #[Operand.tmp 107, Operand.tmp 128], argTypes := #[24, 24] }, type := 24, pos := "l10_log.go:87", after := #[{ on := 1, ground := Ground.data }, { on := 22, ground := Ground.data }], guard := none }) rfl (fun K hK => ?_) AllReadyH.nil
                refine step_append_lies _ (by rfl) _ _ _ (by rfl) w.heap.size 43 j0 _ 4 32 Tryd.underlying24 hj hy0 hy1 hy2 rfl (by omega) (.slice la j lc) j (qcells (rsW ws j)) (by rfl) ((O5.alloc _).drew) ⟨wr.heap.size, 0, none⟩ 1 1 (qc1 ⟨p0, p1, p2, p3⟩) (by rfl) (by rfl) (World.news_of_block (cs := #[.int .i64 (p0 : Int), .int .i64 (p1 : Int), .int .i64 (p2 : Int), .int .i64 (p3 : Int)]) (t := 43) (fr := (0, 0)) (heap_alloc_new wr _)) (by simp [qc1, Value.oneCell']) (by omega) hkm hkb (by simp; omega) (wr.heap.size + 1) (by simp) ?_
                intro gg cap6 w6 hown1 hgrow hat hltx
                have mT6 : w6.heap[T]? = some (.cells #[.int .i64 (n0 : Int), .int .i64 (n1 : Int), .int .i64 (n2 : Int), .string nm, .int .i64 (n3 : Int), .int .i64 (n4 : Int), .slice la j lc] 26) := (by rw [hgrow.block T (by simp; omega) (Ne.symm aT)]; exact heap_old mT5 _)
                have mG6 : w6.heap[gl]? = some (.cells cur 3) := (by rw [hgrow.block gl (by simp; omega) (Ne.symm aX)]; exact heap_old mG5 _)
                have tf6 : w6.frozen? ⟨T, 6, none⟩ = false := frozen_at mT6 6
                have tx6 : w6.cell? ⟨T, 6, none⟩ = some (.slice la j lc) := cell_at mT6 6
                have r0 : w6.cell? ⟨gl, q, none⟩ = some (.int .i64 (p0 : Int)) := (by rw [hgrow.cell_far _ (by simp; omega) (Ne.symm aX)]; exact yy0)
                have r1 : w6.cell? ⟨gl, q + 1, none⟩ = some (.int .i64 (p1 : Int)) := (by rw [hgrow.cell_far _ (by simp; omega) (Ne.symm aX)]; exact yy1)
                have r2 : w6.cell? ⟨gl, q + 2, none⟩ = some (.int .i64 (p2 : Int)) := (by rw [hgrow.cell_far _ (by simp; omega) (Ne.symm aX)]; exact yy2)
                have r3 : w6.cell? ⟨gl, q + 3, none⟩ = some (.int .i64 (p3 : Int)) := (by rw [hgrow.cell_far _ (by simp; omega) (Ne.symm aX)]; exact yy3)
                refine hK.out _ _ ?_ (fun hHeld => ?_)
                · exact ⟨r0, r1, r2, r3⟩
                clear hK K
                (try simp only [Act.put, List.setIfInBounds_toArray, List.set_cons_zero, List.set_cons_succ])
                refine wpAnyH_take (i := 24) (oi := { dst := some 130, op := Op.fieldAddr 26 (Operand.tmp 10) 6, type := 0, pos := "l10_log.go:87", after := #[{ on := 0, ground := Ground.phase }, { on := 1, ground := Ground.phase }, { on := 2, ground := Ground.phase }, { on := 3, ground := Ground.phase }, { on := 4, ground := Ground.phase }, { on := 5, ground := Ground.phase }, { on := 6, ground := Ground.phase }, { on := 7, ground := Ground.phase }, { on := 8, ground := Ground.phase }, { on := 9, ground := Ground.phase }, { on := 10, ground := Ground.phase }, { on := 11, ground := Ground.phase }, { on := 12, ground := Ground.phase }, { on := 13, ground := Ground.phase }, { on := 14, ground := Ground.phase }, { on := 15, ground := Ground.phase }, { on := 16, ground := Ground.phase }, { on := 17, ground := Ground.phase }, { on := 18, ground := Ground.phase }, { on := 19, ground := Ground.phase }, { on := 20, ground := Ground.phase }, { on := 21, ground := Ground.phase }, { on := 22, ground := Ground.phase }, { on := 23, ground := Ground.phase }], guard := none }) (v := ?_) rfl (by kernel_rfl) (by kernel_rfl) (by kernel_rfl) (fun _ _ _ h => h) (Or.inl ⟨by rfl, ?_⟩) (by assumption) ?_
                rotate_left 1
                · (intro wS hSw; (try dsimp only at hSw); go_simp; try (with_reducible rfl))
                (try simp only [Act.put, List.setIfInBounds_toArray, List.set_cons_zero, List.set_cons_succ])
                refine wpAnyH_ready (rs := [25]) (by kernel_rfl) (by simp) ?_
                refine AllReadyH.cons (o := { dst := none, op := Op.store 24 (Operand.tmp 130) (Operand.tmp 129), type := 0, pos := "l10_log.go:87", after := #[{ on := 24, ground := Ground.data }, { on := 23, ground := Ground.data }, { on := 23, ground := Ground.chain }, { on := 0, ground := Ground.phase }, { on := 1, ground := Ground.phase }, { on := 2, ground := Ground.phase }, { on := 3, ground := Ground.phase }, { on := 4, ground := Ground.phase }, { on := 5, ground := Ground.phase }, { on := 6, ground := Ground.phase }, { on := 7, ground := Ground.phase }, { on := 8, ground := Ground.phase }, { on := 9, ground := Ground.phase }, { on := 10, ground := Ground.phase }, { on := 11, ground := Ground.phase }, { on := 12, ground := Ground.phase }, { on := 13, ground := Ground.phase }, { on := 14, ground := Ground.phase }, { on := 15, ground := Ground.phase }, { on := 16, ground := Ground.phase }, { on := 17, ground := Ground.phase }, { on := 18, ground := Ground.phase }, { on := 19, ground := Ground.phase }, { on := 20, ground := Ground.phase }, { on := 21, ground := Ground.phase }, { on := 22, ground := Ground.phase }, { on := 23, ground := Ground.phase }], guard := none }) rfl (fun K hK => ?_) AllReadyH.nil
                go_simp
                refine hK.out _ _ ?_ (fun hHeld => ?_)
                · exact ⟨by rw [Tk.cell_other (Ne.symm hTx)]; exact r0, by rw [Tk.cell_other (Ne.symm hTx)]; exact r1, by rw [Tk.cell_other (Ne.symm hTx)]; exact r2, by rw [Tk.cell_other (Ne.symm hTx)]; exact r3⟩
                clear hK K
                (try simp only [Act.put, List.setIfInBounds_toArray, List.set_cons_zero, List.set_cons_succ])
                refine wpAnyH_done (by kernel_rfl) ?_ _
                have hgT : gg ≠ T := by
                  rintro rfl
                  rcases hat with h | h
                  · exact aT h
                  · omega
                have mR6 : w6.heap[w.heap.size]? = some (.cells #[.int .i64 0, .int .i64 0, .int .i64 0, .string ⟨#[]⟩, .int .i64 0, .int .i64 0, .slice none 0 0] 26) := (by rw [hgrow.block w.heap.size (by have := lt_of m5; simp; omega) (Ne.symm aR)]; exact heap_old m5 _)
                have mR7 := Tk.h_other (i := 6) mR6 (Ne.symm hTR) (.slice (some ⟨gg, 0, none⟩) (j + 1) cap6)
                have mG7 := Tk.h_other (i := 6) mG6 (Ne.symm hTx) (.slice (some ⟨gg, 0, none⟩) (j + 1) cap6)
                have mT7 := Tk.h_set (i := 6) mT6 (.slice (some ⟨gg, 0, none⟩) (j + 1) cap6)
                have O7 := own_off (b := T) (i := 6) hown1 hgT (.slice (some ⟨gg, 0, none⟩) (j + 1) cap6)
                rw [qcells_snoc, ← HRJ.out] at O7
                have K6 : Below w.heap.size w w6 := (K5.out.alloc hbs _).drew.grown hgrow (by simp; omega) (fun m h => own_ge O5 m h)
                have K7 := K6.setCell (p := ⟨T, 6, none⟩) (by show w.heap.size ≤ T; omega) (.slice (some ⟨gg, 0, none⟩) (j + 1) cap6)
                clear hkm hkb hs
                go_wp2
                go_roundw
                case rel => exact ⟨j + 1, q + 4, some ⟨gg, 0, none⟩, cap6, by go_num, HQ4, hq4, hj6, mR7, mT7, mG7, O7, K7⟩
                case measure => simp [intOf]; omega
              refine AllReadyH.cons (o := { dst := some 128, op := Op.buildSlice 24 1 #[(0, Operand.tmp 127)], type := 24, pos := "l10_log.go:87", after := #[{ on := 21, ground := Ground.data }], guard := none }) rfl (fun K hK => ?_) AllReadyH.nil
              go_simp
              refine hK.out _ _ ?_ (fun hHeld => ?_)
              · exact ⟨yy0, yy1, yy2, yy3⟩
              clear hK K
              (try simp only [Act.put, List.setIfInBounds_toArray, List.set_cons_zero, List.set_cons_succ])
              refine wpAnyH_ready (rs := [1]) (by kernel_rfl) (by simp) ?_
              refine AllReadyH.cons (o := { dst := some 107, op := Op.load 24 (Operand.tmp 106), type := 24, pos := "l10_log.go:87", after := #[{ on := 0, ground := Ground.data }], guard := none }) rfl (fun K hK => ?_) AllReadyH.nil
              go_simp
              refine hK.out _ _ ?_ (fun hHeld => ?_)
              · exact ⟨yy0, yy1, yy2, yy3⟩
              clear hK K
              (try simp only [Act.put, List.setIfInBounds_toArray, List.set_cons_zero, List.set_cons_succ])
              refine wpAnyH_ready (rs := [23]) (by kernel_rfl) (by simp) ?_
              refine AllReadyH.cons (o := { dst := some 129, op := Op.call { callee := Callee.builtin Builtin.append, args := #[Operand.tmp 107, Operand.tmp 128], argTypes := #[24, 24] }, type := 24, pos := "l10_log.go:87", after := #[{ on := 1, ground := Ground.data }, { on := 22, ground := Ground.data }], guard := none }) rfl (fun K hK => ?_) AllReadyH.nil
              refine step_append_lies _ (by rfl) _ _ _ (by rfl) w.heap.size 43 j0 _ 4 32 Tryd.underlying24 hj hy0 hy1 hy2 rfl (by omega) (.slice la j lc) j (qcells (rsW ws j)) (by rfl) ((O5.alloc _).drew) ⟨wr.heap.size, 0, none⟩ 1 1 (qc1 ⟨p0, p1, p2, p3⟩) (by rfl) (by rfl) (World.news_of_block (cs := #[.int .i64 (p0 : Int), .int .i64 (p1 : Int), .int .i64 (p2 : Int), .int .i64 (p3 : Int)]) (t := 43) (fr := (0, 0)) (heap_alloc_new wr _)) (by simp [qc1, Value.oneCell']) (by omega) hkm hkb (by simp; omega) (wr.heap.size + 1) (by simp) ?_
              intro gg cap6 w6 hown1 hgrow hat hltx
              have mT6 : w6.heap[T]? = some (.cells #[.int .i64 (n0 : Int), .int .i64 (n1 : Int), .int .i64 (n2 : Int), .string nm, .int .i64 (n3 : Int), .int .i64 (n4 : Int), .slice la j lc] 26) := (by rw [hgrow.block T (by simp; omega) (Ne.symm aT)]; exact heap_old mT5 _)
              have mG6 : w6.heap[gl]? = some (.cells cur 3) := (by rw [hgrow.block gl (by simp; omega) (Ne.symm aX)]; exact heap_old mG5 _)
              have tf6 : w6.frozen? ⟨T, 6, none⟩ = false := frozen_at mT6 6
              have tx6 : w6.cell? ⟨T, 6, none⟩ = some (.slice la j lc) := cell_at mT6 6
              have r0 : w6.cell? ⟨gl, q, none⟩ = some (.int .i64 (p0 : Int)) := (by rw [hgrow.cell_far _ (by simp; omega) (Ne.symm aX)]; exact yy0)
              have r1 : w6.cell? ⟨gl, q + 1, none⟩ = some (.int .i64 (p1 : Int)) := (by rw [hgrow.cell_far _ (by simp; omega) (Ne.symm aX)]; exact yy1)
              have r2 : w6.cell? ⟨gl, q + 2, none⟩ = some (.int .i64 (p2 : Int)) := (by rw [hgrow.cell_far _ (by simp; omega) (Ne.symm aX)]; exact yy2)
              have r3 : w6.cell? ⟨gl, q + 3, none⟩ = some (.int .i64 (p3 : Int)) := (by rw [hgrow.cell_far _ (by simp; omega) (Ne.symm aX)]; exact yy3)
              refine hK.out _ _ ?_ (fun hHeld => ?_)
              · exact ⟨r0, r1, r2, r3⟩
              clear hK K
              (try simp only [Act.put, List.setIfInBounds_toArray, List.set_cons_zero, List.set_cons_succ])
              refine wpAnyH_take (i := 24) (oi := { dst := some 130, op := Op.fieldAddr 26 (Operand.tmp 10) 6, type := 0, pos := "l10_log.go:87", after := #[{ on := 0, ground := Ground.phase }, { on := 1, ground := Ground.phase }, { on := 2, ground := Ground.phase }, { on := 3, ground := Ground.phase }, { on := 4, ground := Ground.phase }, { on := 5, ground := Ground.phase }, { on := 6, ground := Ground.phase }, { on := 7, ground := Ground.phase }, { on := 8, ground := Ground.phase }, { on := 9, ground := Ground.phase }, { on := 10, ground := Ground.phase }, { on := 11, ground := Ground.phase }, { on := 12, ground := Ground.phase }, { on := 13, ground := Ground.phase }, { on := 14, ground := Ground.phase }, { on := 15, ground := Ground.phase }, { on := 16, ground := Ground.phase }, { on := 17, ground := Ground.phase }, { on := 18, ground := Ground.phase }, { on := 19, ground := Ground.phase }, { on := 20, ground := Ground.phase }, { on := 21, ground := Ground.phase }, { on := 22, ground := Ground.phase }, { on := 23, ground := Ground.phase }], guard := none }) (v := ?_) rfl (by kernel_rfl) (by kernel_rfl) (by kernel_rfl) (fun _ _ _ h => h) (Or.inl ⟨by rfl, ?_⟩) (by assumption) ?_
              rotate_left 1
              · (intro wS hSw; (try dsimp only at hSw); go_simp; try (with_reducible rfl))
              (try simp only [Act.put, List.setIfInBounds_toArray, List.set_cons_zero, List.set_cons_succ])
              refine wpAnyH_ready (rs := [25]) (by kernel_rfl) (by simp) ?_
              refine AllReadyH.cons (o := { dst := none, op := Op.store 24 (Operand.tmp 130) (Operand.tmp 129), type := 0, pos := "l10_log.go:87", after := #[{ on := 24, ground := Ground.data }, { on := 23, ground := Ground.data }, { on := 23, ground := Ground.chain }, { on := 0, ground := Ground.phase }, { on := 1, ground := Ground.phase }, { on := 2, ground := Ground.phase }, { on := 3, ground := Ground.phase }, { on := 4, ground := Ground.phase }, { on := 5, ground := Ground.phase }, { on := 6, ground := Ground.phase }, { on := 7, ground := Ground.phase }, { on := 8, ground := Ground.phase }, { on := 9, ground := Ground.phase }, { on := 10, ground := Ground.phase }, { on := 11, ground := Ground.phase }, { on := 12, ground := Ground.phase }, { on := 13, ground := Ground.phase }, { on := 14, ground := Ground.phase }, { on := 15, ground := Ground.phase }, { on := 16, ground := Ground.phase }, { on := 17, ground := Ground.phase }, { on := 18, ground := Ground.phase }, { on := 19, ground := Ground.phase }, { on := 20, ground := Ground.phase }, { on := 21, ground := Ground.phase }, { on := 22, ground := Ground.phase }, { on := 23, ground := Ground.phase }], guard := none }) rfl (fun K hK => ?_) AllReadyH.nil
              go_simp
              refine hK.out _ _ ?_ (fun hHeld => ?_)
              · exact ⟨by rw [Tk.cell_other (Ne.symm hTx)]; exact r0, by rw [Tk.cell_other (Ne.symm hTx)]; exact r1, by rw [Tk.cell_other (Ne.symm hTx)]; exact r2, by rw [Tk.cell_other (Ne.symm hTx)]; exact r3⟩
              clear hK K
              (try simp only [Act.put, List.setIfInBounds_toArray, List.set_cons_zero, List.set_cons_succ])
              refine wpAnyH_done (by kernel_rfl) ?_ _
              have hgT : gg ≠ T := by
                rintro rfl
                rcases hat with h | h
                · exact aT h
                · omega
              have mR6 : w6.heap[w.heap.size]? = some (.cells #[.int .i64 0, .int .i64 0, .int .i64 0, .string ⟨#[]⟩, .int .i64 0, .int .i64 0, .slice none 0 0] 26) := (by rw [hgrow.block w.heap.size (by have := lt_of m5; simp; omega) (Ne.symm aR)]; exact heap_old m5 _)
              have mR7 := Tk.h_other (i := 6) mR6 (Ne.symm hTR) (.slice (some ⟨gg, 0, none⟩) (j + 1) cap6)
              have mG7 := Tk.h_other (i := 6) mG6 (Ne.symm hTx) (.slice (some ⟨gg, 0, none⟩) (j + 1) cap6)
              have mT7 := Tk.h_set (i := 6) mT6 (.slice (some ⟨gg, 0, none⟩) (j + 1) cap6)
              have O7 := own_off (b := T) (i := 6) hown1 hgT (.slice (some ⟨gg, 0, none⟩) (j + 1) cap6)
              rw [qcells_snoc, ← HRJ.out] at O7
              have K6 : Below w.heap.size w w6 := (K5.out.alloc hbs _).drew.grown hgrow (by simp; omega) (fun m h => own_ge O5 m h)
              have K7 := K6.setCell (p := ⟨T, 6, none⟩) (by show w.heap.size ≤ T; omega) (.slice (some ⟨gg, 0, none⟩) (j + 1) cap6)
              clear hkm hkb hs
              go_wp2
              go_roundw
              case rel => exact ⟨j + 1, q + 4, some ⟨gg, 0, none⟩, cap6, by go_num, HQ4, hq4, hj6, mR7, mT7, mG7, O7, K7⟩
              case measure => simp [intOf]; omega
            · obtain rfl : q = k := by omega
              have hjn : j = n5 := by omega
              subst hjn
              clear hkk hqq
              have hqI : ¬ (q : Int) < (q : Int) := by omega
              have b0 : wr.cell? ⟨T, 0, none⟩ = some (.int .i64 (n0 : Int)) := cell_at mT5 0
              have b1 : wr.cell? ⟨T, 1, none⟩ = some (.int .i64 (n1 : Int)) := cell_at mT5 1
              have b2 : wr.cell? ⟨T, 2, none⟩ = some (.int .i64 (n2 : Int)) := cell_at mT5 2
              have b3 : wr.cell? ⟨T, 3, none⟩ = some (.string nm) := cell_at mT5 3
              have b4 : wr.cell? ⟨T, 4, none⟩ = some (.int .i64 (n3 : Int)) := cell_at mT5 4
              have b5 : wr.cell? ⟨T, 5, none⟩ = some (.int .i64 (n4 : Int)) := cell_at mT5 5
              have b6 : wr.cell? ⟨T, 6, none⟩ = some (.slice la j lc) := cell_at mT5 6
              have OJ : wr.ownsRow w.heap.size 43 4 (.slice la (rsW ws j).length lc) (rsW ws j).length (qcells (rsW ws j)) := by rw [rsW_length]; exact O5
              obtain ⟨a2, lc2, e2, I2⟩ := own_rides OJ
              simp only [Value.slice.injEq, true_and] at e2
              obtain ⟨rfl, rfl⟩ := e2
              have HPU : Hid (∀ _ : Unit, _) := fun _ => HWL.out wr la lc I2
              rw [HHW.out] at HPU HUN
              clear HHW HWL I2 OJ
              by_cases hok : wlB ⟨(n0 : Int), (n1 : Int), (n2 : Int), (n3 : Int), (n4 : Int)⟩ nm (rsW ws j) = true
              · by_cases hpt : dl (wz ⟨(n0 : Int), (n1 : Int), (n2 : Int), (n3 : Int), (n4 : Int)⟩ (rsW ws j)) ++ nm = s
                · rw [wlS_yes hok, hpt, hok] at HPU
                  have HG : Hid (Good s ⟨(n0 : Int), (n1 : Int), (n2 : Int), (n3 : Int), (n4 : Int)⟩ nm (rsW ws j)) := ⟨hok, hpt⟩
                  clear hok hpt
                  go_wp2_with fail
                  refine (HPU.out ()).mono ?_
                  rintro e w6 ⟨rfl, L6⟩
                  have m6 := kept L6 (lt_of m5) m5
                  have mT6 := kept L6 (lt_of mT5) mT5
                  have O6 := own_below O5 L6 (Nat.le_refl _)
                  have K6 := join_below K5.out L6
                  have aR : (Value.slice la j lc).ownBlock ≠ some w.heap.size := Pk.own_ne' O6 m6 (by decide)
                  clear HPU m5 mT5 O5 K5 L6 b0 b1 b2 b3 b4 b5 b6
                  have a0 : w6.cell? ⟨w.heap.size, 0, none⟩ = some (.int .i64 0) := cell_at m6 0
                  have a1 : w6.cell? ⟨w.heap.size, 1, none⟩ = some (.int .i64 0) := cell_at m6 1
                  have a2 : w6.cell? ⟨w.heap.size, 2, none⟩ = some (.int .i64 0) := cell_at m6 2
                  have a3 : w6.cell? ⟨w.heap.size, 3, none⟩ = some (.string ⟨#[]⟩) := cell_at m6 3
                  have a4 : w6.cell? ⟨w.heap.size, 4, none⟩ = some (.int .i64 0) := cell_at m6 4
                  have a5 : w6.cell? ⟨w.heap.size, 5, none⟩ = some (.int .i64 0) := cell_at m6 5
                  have a6 : w6.cell? ⟨w.heap.size, 6, none⟩ = some (.slice none 0 0) := cell_at m6 6
                  have f0 : w6.frozen? ⟨w.heap.size, 0, none⟩ = false := frozen_at m6 0
                  have f1 : w6.frozen? ⟨w.heap.size, 1, none⟩ = false := frozen_at m6 1
                  have f2 : w6.frozen? ⟨w.heap.size, 2, none⟩ = false := frozen_at m6 2
                  have f3 : w6.frozen? ⟨w.heap.size, 3, none⟩ = false := frozen_at m6 3
                  have f4 : w6.frozen? ⟨w.heap.size, 4, none⟩ = false := frozen_at m6 4
                  have f5 : w6.frozen? ⟨w.heap.size, 5, none⟩ = false := frozen_at m6 5
                  have f6 : w6.frozen? ⟨w.heap.size, 6, none⟩ = false := frozen_at m6 6
                  have b0 : w6.cell? ⟨T, 0, none⟩ = some (.int .i64 (n0 : Int)) := cell_at mT6 0
                  have b1 : w6.cell? ⟨T, 1, none⟩ = some (.int .i64 (n1 : Int)) := cell_at mT6 1
                  have b2 : w6.cell? ⟨T, 2, none⟩ = some (.int .i64 (n2 : Int)) := cell_at mT6 2
                  have b3 : w6.cell? ⟨T, 3, none⟩ = some (.string nm) := cell_at mT6 3
                  have b4 : w6.cell? ⟨T, 4, none⟩ = some (.int .i64 (n3 : Int)) := cell_at mT6 4
                  have b5 : w6.cell? ⟨T, 5, none⟩ = some (.int .i64 (n4 : Int)) := cell_at mT6 5
                  have b6 : w6.cell? ⟨T, 6, none⟩ = some (.slice la j lc) := cell_at mT6 6
                  go_wp2
                  refine bodyPost_ret (v := .tuple #[wnV ⟨(n0 : Int), (n1 : Int), (n2 : Int), (n3 : Int), (n4 : Int)⟩ nm la j lc, .bool true]) (by simp [results, Tryd.results11, go_sem, a0, a1, a2, a3, a4, a5, a6]) rfl ?_
                  refine ⟨Or.inl ⟨_, nm, rsW ws j, la, lc, HG.out, by rw [rsW_length], ?_⟩, ?_⟩
                  · rw [rsW_length]
                    exact own_offv (own_offv (own_offv (own_offv (own_offv (own_offv (own_offv O6 aR _) aR _) aR _) aR _) aR _) aR _) aR _
                  · (repeat' (first | apply Below.setCell | exact K6)) <;> first | (simp; done) | (simp; omega)
                · rw [wlS_yes hok, hok] at HPU
                  have HNG : Hid (∀ t2 nm2 ls2, ¬ Good s t2 nm2 ls2) := fun t2 nm2 ls2 h => by obtain ⟨rfl, rfl, rfl⟩ := HUN.out t2 nm2 ls2 h; exact hpt h.2
                  generalize dl (wz ⟨(n0 : Int), (n1 : Int), (n2 : Int), (n3 : Int), (n4 : Int)⟩ (rsW ws j)) ++ nm = pt at *
                  have z1 : ¬ pt.toList = s.toList := fun e => hpt (Go.WideShapes.bytes_inj (by rw [← ByteArray.toList_eq, ← ByteArray.toList_eq]; exact e))
                  have z2 : (pt.toList == s.toList) = false := beq_eq_false_iff_ne.2 z1
                  go_wp2_with fail
                  refine (HPU.out ()).mono ?_
                  rintro e w6 ⟨rfl, L6⟩
                  have m6 := kept L6 (lt_of m5) m5
                  have K6 := join_below K5.out L6
                  clear HPU m5 mT5 O5 K5 L6 b0 b1 b2 b3 b4 b5 b6
                  have a0 : w6.cell? ⟨w.heap.size, 0, none⟩ = some (.int .i64 0) := cell_at m6 0
                  have a1 : w6.cell? ⟨w.heap.size, 1, none⟩ = some (.int .i64 0) := cell_at m6 1
                  have a2 : w6.cell? ⟨w.heap.size, 2, none⟩ = some (.int .i64 0) := cell_at m6 2
                  have a3 : w6.cell? ⟨w.heap.size, 3, none⟩ = some (.string ⟨#[]⟩) := cell_at m6 3
                  have a4 : w6.cell? ⟨w.heap.size, 4, none⟩ = some (.int .i64 0) := cell_at m6 4
                  have a5 : w6.cell? ⟨w.heap.size, 5, none⟩ = some (.int .i64 0) := cell_at m6 5
                  have a6 : w6.cell? ⟨w.heap.size, 6, none⟩ = some (.slice none 0 0) := cell_at m6 6
                  have f0 : w6.frozen? ⟨w.heap.size, 0, none⟩ = false := frozen_at m6 0
                  have f1 : w6.frozen? ⟨w.heap.size, 1, none⟩ = false := frozen_at m6 1
                  have f2 : w6.frozen? ⟨w.heap.size, 2, none⟩ = false := frozen_at m6 2
                  have f3 : w6.frozen? ⟨w.heap.size, 3, none⟩ = false := frozen_at m6 3
                  have f4 : w6.frozen? ⟨w.heap.size, 4, none⟩ = false := frozen_at m6 4
                  have f5 : w6.frozen? ⟨w.heap.size, 5, none⟩ = false := frozen_at m6 5
                  have f6 : w6.frozen? ⟨w.heap.size, 6, none⟩ = false := frozen_at m6 6
                  go_wp2
                  refine bodyPost_ret (v := .tuple #[wnV ⟨0, 0, 0, 0, 0⟩ ⟨#[]⟩ none 0 0, .bool false]) (by simp [results, Tryd.results11, go_sem, a0, a1, a2, a3, a4, a5, a6]) rfl ?_
                  refine ⟨Or.inr ⟨HNG.out, rfl⟩, ?_⟩
                  (repeat' (first | apply Below.setCell | exact K6)) <;> first | (simp; done) | (simp; omega)
              · have hok8 : wlB ⟨(n0 : Int), (n1 : Int), (n2 : Int), (n3 : Int), (n4 : Int)⟩ nm (rsW ws j) = false := Bool.eq_false_iff.2 hok
                rw [wlS_no hok8, hok8] at HPU
                have HNG : Hid (∀ t2 nm2 ls2, ¬ Good s t2 nm2 ls2) := fun t2 nm2 ls2 h => by obtain ⟨rfl, rfl, rfl⟩ := HUN.out t2 nm2 ls2 h; exact hok h.1
                go_wp2_with fail
                refine (HPU.out ()).mono ?_
                rintro e w6 ⟨rfl, L6⟩
                have m6 := kept L6 (lt_of m5) m5
                have K6 := join_below K5.out L6
                clear HPU m5 mT5 O5 K5 L6 b0 b1 b2 b3 b4 b5 b6
                have a0 : w6.cell? ⟨w.heap.size, 0, none⟩ = some (.int .i64 0) := cell_at m6 0
                have a1 : w6.cell? ⟨w.heap.size, 1, none⟩ = some (.int .i64 0) := cell_at m6 1
                have a2 : w6.cell? ⟨w.heap.size, 2, none⟩ = some (.int .i64 0) := cell_at m6 2
                have a3 : w6.cell? ⟨w.heap.size, 3, none⟩ = some (.string ⟨#[]⟩) := cell_at m6 3
                have a4 : w6.cell? ⟨w.heap.size, 4, none⟩ = some (.int .i64 0) := cell_at m6 4
                have a5 : w6.cell? ⟨w.heap.size, 5, none⟩ = some (.int .i64 0) := cell_at m6 5
                have a6 : w6.cell? ⟨w.heap.size, 6, none⟩ = some (.slice none 0 0) := cell_at m6 6
                have f0 : w6.frozen? ⟨w.heap.size, 0, none⟩ = false := frozen_at m6 0
                have f1 : w6.frozen? ⟨w.heap.size, 1, none⟩ = false := frozen_at m6 1
                have f2 : w6.frozen? ⟨w.heap.size, 2, none⟩ = false := frozen_at m6 2
                have f3 : w6.frozen? ⟨w.heap.size, 3, none⟩ = false := frozen_at m6 3
                have f4 : w6.frozen? ⟨w.heap.size, 4, none⟩ = false := frozen_at m6 4
                have f5 : w6.frozen? ⟨w.heap.size, 5, none⟩ = false := frozen_at m6 5
                have f6 : w6.frozen? ⟨w.heap.size, 6, none⟩ = false := frozen_at m6 6
                go_wp2
                refine bodyPost_ret (v := .tuple #[wnV ⟨0, 0, 0, 0, 0⟩ ⟨#[]⟩ none 0 0, .bool false]) (by simp [results, Tryd.results11, go_sem, a0, a1, a2, a3, a4, a5, a6]) rfl ?_
                refine ⟨Or.inr ⟨HNG.out, rfl⟩, ?_⟩
                (repeat' (first | apply Below.setCell | exact K6)) <;> first | (simp; done) | (simp; omega)
        · have hkI : ((k : Int) != 6 + 4 * ((vl (wd ws 5) : Nat) : Int)) = true := by rw [bne_iff_ne]; omega
          have hkE : ¬ (k : Int) = 6 + 4 * ((vl (wd ws 5) : Nat) : Int) := by omega
          have HNG : Hid (∀ t nm ls, ¬ Good s t nm ls) := fun t nm ls G => by
            obtain ⟨q1, q2, -⟩ := HSG.out k HST.out t nm ls G
            omega
          generalize vl (wd ws 5) = n5 at *
          have a0 : wc.cell? ⟨w.heap.size, 0, none⟩ = some (.int .i64 0) := cell_at m3 0
          have a1 : wc.cell? ⟨w.heap.size, 1, none⟩ = some (.int .i64 0) := cell_at m3 1
          have a2 : wc.cell? ⟨w.heap.size, 2, none⟩ = some (.int .i64 0) := cell_at m3 2
          have a3 : wc.cell? ⟨w.heap.size, 3, none⟩ = some (.string ⟨#[]⟩) := cell_at m3 3
          have a4 : wc.cell? ⟨w.heap.size, 4, none⟩ = some (.int .i64 0) := cell_at m3 4
          have a5 : wc.cell? ⟨w.heap.size, 5, none⟩ = some (.int .i64 0) := cell_at m3 5
          have a6 : wc.cell? ⟨w.heap.size, 6, none⟩ = some (.slice none 0 0) := cell_at m3 6
          have f0 : wc.frozen? ⟨w.heap.size, 0, none⟩ = false := frozen_at m3 0
          have f1 : wc.frozen? ⟨w.heap.size, 1, none⟩ = false := frozen_at m3 1
          have f2 : wc.frozen? ⟨w.heap.size, 2, none⟩ = false := frozen_at m3 2
          have f3 : wc.frozen? ⟨w.heap.size, 3, none⟩ = false := frozen_at m3 3
          have f4 : wc.frozen? ⟨w.heap.size, 4, none⟩ = false := frozen_at m3 4
          have f5 : wc.frozen? ⟨w.heap.size, 5, none⟩ = false := frozen_at m3 5
          have f6 : wc.frozen? ⟨w.heap.size, 6, none⟩ = false := frozen_at m3 6
          go_wp2
          refine bodyPost_ret (v := .tuple #[wnV ⟨0, 0, 0, 0, 0⟩ ⟨#[]⟩ none 0 0, .bool false]) (by simp [results, Tryd.results11, go_sem, a0, a1, a2, a3, a4, a5, a6]) rfl ?_
          refine ⟨Or.inr ⟨HNG.out, rfl⟩, ?_⟩
          (repeat' (first | apply Below.setCell | exact K3)) <;> first | (simp; done) | (simp; omega)

end Wn
end Go.Proofs.YtaplbjoghkipdaaDoor

/- Contracts of the laws' own helpers over rides that a function has been given or has made: marked, held against the marks. -/
namespace Go.Proofs.YtaplbjoghkipdaaDoor
namespace Rd
open Go.ChangeShapes Go.WideShapes Go.ChangeAt Go.RowKit
open Pk (new_below join_below cell_at heap_new frozen_at lt_of kept heap_old Drawn info_of Room)
set_option linter.unusedSimpArgs false
set_option linter.unusedVariables false

/-- All but the blocks from lo up to hi is as it was. -/
structure Band (lo hi : Nat) (w w' : World) : Prop where
  os : w'.os = w.os
  tape : w'.tape = w.tape
  output : w'.output = w.output
  size : w'.heap.size = w.heap.size
  block : ∀ b, b < lo ∨ hi ≤ b → w'.heap[b]? = w.heap[b]?

theorem Band.refl (lo hi : Nat) (w : World) : Band lo hi w w := ⟨rfl, rfl, rfl, rfl, fun _ _ => rfl⟩

theorem Band.trans {lo hi : Nat} {a b c : World} (h : Band lo hi a b) (k : Band lo hi b c) : Band lo hi a c :=
  ⟨k.os.trans h.os, k.tape.trans h.tape, k.output.trans h.output, k.size.trans h.size, fun i hi => (k.block i hi).trans (h.block i hi)⟩

theorem Band.set {lo hi : Nat} {a w : World} (h : Band lo hi a w) {g i : Nat} (h1 : lo ≤ g) (h2 : g < hi) (u : Value) : Band lo hi a (w.setCell ⟨g, i, none⟩ u) := by
  have L := (Below.refl 0 w).setCell (p := ⟨g, i, none⟩) (Nat.zero_le _) u
  refine ⟨L.os.trans h.os, L.tape.trans h.tape, L.output.trans h.output, by rw [World.size_setCell]; exact h.size, fun b hb => ?_⟩
  rw [Below.heap_setCell w ⟨g, i, none⟩ u b (by show b ≠ g; omega)]
  exact h.block b hb

theorem Band.below {lo hi : Nat} {w w' : World} (h : Band lo hi w w') : Below lo w w' := ⟨h.os, h.tape, h.output, Nat.le_of_eq h.size.symm, fun k hk => h.block k (Or.inl hk)⟩

theorem Rides.band {lo hi : Nat} {w w1 : World} {a : Option Addr} {ps : List Ri} (h : Rides w a ps) (L : Band lo hi w w1) (ha : ∀ b o, a = some ⟨b, o, none⟩ → ps ≠ [] → b < lo ∨ hi ≤ b) : Rides w1 a ps := by
  rcases h with h | ⟨b, o, rfl, hlt, hc⟩
  · exact Or.inl h
  · by_cases hz : ps = []
    · exact Or.inl hz
    · have hb := L.block b (ha b o rfl hz)
      exact Or.inr ⟨b, o, rfl, by rw [L.size]; exact hlt, fun i hi => by rw [World.cell?_of_block (a := ⟨b, o + i * 4, none⟩) hb, World.cell?_of_block (a := ⟨b, o + i * 4 + 1, none⟩) hb, World.cell?_of_block (a := ⟨b, o + i * 4 + 2, none⟩) hb, World.cell?_of_block (a := ⟨b, o + i * 4 + 3, none⟩) hb]; exact hc i hi⟩

theorem Room.band {lo hi : Nat} {w w1 : World} {g m : Nat} (h : Room w g m) (L : Band lo hi w w1) (hg : g < lo ∨ hi ≤ g) : Room w1 g m := by
  intro j hj
  rw [World.cell?_of_block (a := ⟨g, j, none⟩) (L.block g hg), World.frozen?_of_block (a := ⟨g, j, none⟩) (L.block g hg)]
  exact h j hj

/-- The marks of n rides in block g. -/
def Marked (w : World) (g n : Nat) : Prop := ∀ i, i < n → w.cell? ⟨g, i * 4, none⟩ = some (.int .i64 (1 + 4 * (i : Int))) ∧ w.cell? ⟨g, i * 4 + 1, none⟩ = some (.int .i64 (1 + 4 * (i : Int) + 1)) ∧ w.cell? ⟨g, i * 4 + 2, none⟩ = some (.int .i64 (1 + 4 * (i : Int) + 2)) ∧ w.cell? ⟨g, i * 4 + 3, none⟩ = some (.int .i64 (1 + 4 * (i : Int) + 3))

theorem Marked.on {w w1 : World} {g n B : Nat} (h : Marked w g n) (L : Below B w w1) (hg : g < B) : Marked w1 g n := by
  intro i hi
  rw [L.cell (p := ⟨g, i * 4, none⟩) hg, L.cell (p := ⟨g, i * 4 + 1, none⟩) hg, L.cell (p := ⟨g, i * 4 + 2, none⟩) hg, L.cell (p := ⟨g, i * 4 + 3, none⟩) hg]
  exact h i hi

theorem Marked.step {w : World} {g n k : Nat} (h : Marked w g k) (R : Room w g (n * 4)) (hk : k < n) : Marked ((((w.setCell ⟨g, k * 4, none⟩ (.int .i64 (1 + 4 * (k : Int)))).setCell ⟨g, k * 4 + 1, none⟩ (.int .i64 (1 + 4 * (k : Int) + 1))).setCell ⟨g, k * 4 + 2, none⟩ (.int .i64 (1 + 4 * (k : Int) + 2))).setCell ⟨g, k * 4 + 3, none⟩ (.int .i64 (1 + 4 * (k : Int) + 3))) g (k + 1) := by
  intro i hi
  by_cases e : i = k
  · subst e
    obtain ⟨⟨v0, e0⟩, -⟩ := R (i * 4) (by omega)
    obtain ⟨⟨v1, e1⟩, -⟩ := R (i * 4 + 1) (by omega)
    obtain ⟨⟨v2, e2⟩, -⟩ := R (i * 4 + 2) (by omega)
    obtain ⟨⟨v3, e3⟩, -⟩ := R (i * 4 + 3) (by omega)
    rw [set_cell (set_cell (set_cell (set_cell e0))), set_cell (set_cell (set_cell (set_cell e1))), set_cell (set_cell (set_cell (set_cell e2))), set_cell (set_cell (set_cell (set_cell e3)))]
    simp
  · obtain ⟨e0, e1, e2, e3⟩ := h i (by omega)
    rw [set_cell (set_cell (set_cell (set_cell e0))), set_cell (set_cell (set_cell (set_cell e1))), set_cell (set_cell (set_cell (set_cell e2))), set_cell (set_cell (set_cell (set_cell e3)))]
    rw [if_neg (by omega), if_neg (by omega), if_neg (by omega), if_neg (by omega), if_neg (by omega), if_neg (by omega), if_neg (by omega), if_neg (by omega), if_neg (by omega), if_neg (by omega), if_neg (by omega), if_neg (by omega), if_neg (by omega), if_neg (by omega), if_neg (by omega), if_neg (by omega)]
    exact ⟨rfl, rfl, rfl, rfl⟩

end Rd
end Go.Proofs.YtaplbjoghkipdaaDoor

/- A want that a function has made, marked and held against the marks. -/
namespace Go.Proofs.YtaplbjoghkipdaaDoor
namespace Wn
open Go.ChangeShapes Go.WideShapes Go.ChangeAt Go.RowKit
open Pk (own_at own_ge own_below own_form new_below join_below heap_new lt_of kept cell_at heap_old frozen_at Room)
open Rd (Ri Rides Marked Band)
set_option linter.unusedSimpArgs false
set_option linter.unusedVariables false

/-- All blocks that were there, but one, are as they were. -/
structure But (g : Nat) (w w' : World) : Prop where
  os : w'.os = w.os
  tape : w'.tape = w.tape
  output : w'.output = w.output
  size : w.heap.size ≤ w'.heap.size
  block : ∀ b, b < w.heap.size → b ≠ g → w'.heap[b]? = w.heap[b]?

theorem But.below {g B : Nat} {a w w' : World} (h : But g w w') (L : Below B a w) (hB : B ≤ w.heap.size) (hg : B ≤ g) : Below B a w' :=
  ⟨h.os.trans L.os, h.tape.trans L.tape, h.output.trans L.output, Nat.le_trans L.size h.size, fun k hk => (h.block k (Nat.lt_of_lt_of_le hk hB) (by omega)).trans (L.block k hk)⟩

theorem But.keep {g b : Nat} {w w' : World} {x : Obj} (h : But g w w') (m : w.heap[b]? = some x) (hne : b ≠ g) : w'.heap[b]? = some x := (h.block b (lt_of m) hne).trans m

theorem But.own {g : Nat} {w w' : World} {base e z n : Nat} {v : Value} {xs : List Value} (h : But g w w') (O : w.ownsRow base e z v n xs) (hne : v.ownBlock ≠ some g) : w'.ownsRow base e z v n xs := by
  obtain ⟨hl, h2⟩ := O
  refine ⟨hl, ?_⟩
  rcases h2 with h2 | ⟨g', cap', cur, hv, hg, hh, h1, h3, h4, h5⟩
  · exact Or.inl h2
  · subst hv
    have hne2 : g' ≠ g := fun e => hne (by rw [e]; rfl)
    exact Or.inr ⟨g', cap', cur, rfl, hg, h.keep hh hne2, h1, h3, h4, h5⟩

end Wn
end Go.Proofs.YtaplbjoghkipdaaDoor

/- What ReadWant answers, of the program and of its model, is one thing. -/
namespace Go.Proofs.YtaplbjoghkipdaaDoor
namespace Wn
open Go.ChangeShapes Go.WideShapes Go.ChangeAt Go.RowKit
open Pk (own_at own_ge own_below own_form new_below join_below heap_new lt_of kept cell_at heap_old frozen_at Room)
open Rd (Ri Rides Marked)
open Gt (ML)
set_option linter.unusedSimpArgs false
set_option linter.unusedVariables false

/-- An answer of GetWant, written out. -/
def GetIs (t : Wh) (nm : ByteArray) (ls : List Rd.Ri) (ok : Bool) (base : Nat) (e : Ending) (w : World) : Prop :=
  ∃ a cap, e = .returned (.tuple #[wnV t nm a ls.length cap, .bool ok]) ∧ w.ownsRow base 43 4 (.slice a ls.length cap) ls.length (qcells ls)

theorem get_one (s : ByteArray) : ∃ t nm ls ok, ls.length ≤ 6 ∧ ∀ base e w, GetEnd s base e w → GetIs t nm ls ok base e w := by
  by_cases h : ∃ t nm ls, Good s t nm ls
  · obtain ⟨t, nm, ls, hg⟩ := h
    refine ⟨t, nm, ls, true, (wl_parts hg.1).2.1, ?_⟩
    rintro base e w (⟨t', nm', ls', a, cap, hg', rfl, O⟩ | ⟨hn, -⟩)
    · obtain ⟨rfl, rfl, rfl⟩ := good_one hg hg'
      exact ⟨a, cap, rfl, O⟩
    · exact absurd hg (hn t nm ls)
  · refine ⟨⟨0, 0, 0, 0, 0⟩, ⟨#[]⟩, [], false, by simp, ?_⟩
    rintro base e w (⟨t', nm', ls', a, cap, hg', rfl, O⟩ | ⟨-, rfl⟩)
    · exact absurd ⟨t', nm', ls', hg'⟩ h
    · exact ⟨none, 0, rfl, ⟨rfl, Or.inl ⟨rfl, rfl⟩⟩⟩

theorem specGet_is {s : ByteArray} {t : Wh} {nm : ByteArray} {ls : List Rd.Ri} {ok : Bool} (hs : s.size ≤ 1048576) (H : ∀ base e w, GetEnd s base e w → GetIs t nm ls ok base e w) (w : World) :
    Calls Tryd.prog 11 #[.string s] w fun e w' => GetIs t nm ls ok w.heap.size e w' ∧ Below w.heap.size w w' :=
  (specGet_val s w hs).mono fun e w' h => ⟨H _ _ _ h.1, h.2⟩

theorem implGet_is {s : ByteArray} {t : Wh} {nm : ByteArray} {ls : List Rd.Ri} {ok : Bool} (hs : s.size ≤ 1048576) (H : ∀ base e w, GetEnd s base e w → GetIs t nm ls ok base e w) (w : World) (M : ML w) (Tn : Num.Tens w) :
    Calls Tryd.prog 8 #[.string s] w fun e w' => GetIs t nm ls ok w.heap.size e w' ∧ Below w.heap.size w w' :=
  (implGet_val s w hs M Tn).mono fun e w' h => ⟨H _ _ _ h.1, h.2⟩

theorem ml_of {w : World} (h : w.ShapedOpen Tryd.prog) : ML w :=
  cell_of_shapedOpen_int (zero := #[.int .i64 0]) (t := 3) h (of_decide_eq_true (by kernel_rfl)) (by kernel_rfl) rfl (by kernel_rfl) (by kernel_rfl) Tryd.underlying3

/-- The block of a row of legs, where there are legs. -/
theorem rides_blk {w : World} {base : Nat} {a : Option Addr} {ls : List Rd.Ri} {cap : Nat} (O : w.ownsRow base 43 4 (.slice a ls.length cap) ls.length (qcells ls)) (hb : base ≤ w.heap.size) :
    ∃ g, base ≤ g ∧ g ≠ w.heap.size ∧ (ls.length = 0 ∨ (a = some ⟨g, 0, none⟩ ∧ Room w g (ls.length * 4) ∧ g < w.heap.size)) ∧ ((Value.slice a ls.length cap).ownBlock = some g ∨ w.heap.size < g) := by
  by_cases h0 : ls.length = 0
  · exact ⟨w.heap.size + 1, by omega, by omega, Or.inl h0, Or.inr (by omega)⟩
  · obtain ⟨g, cp, e, h1, h2, h3, h4⟩ := own_cell O (by omega)
    simp only [Value.slice.injEq, true_and] at e
    obtain ⟨rfl, rfl⟩ := e
    refine ⟨g, h1, by omega, Or.inr ⟨rfl, fun j hj => ⟨?_, h4 j⟩, h2⟩, Or.inl rfl⟩
    have hx : j < (qcells ls).length := by rw [qcells_length]; omega
    exact ⟨_, h3 j _ (List.getElem?_eq_getElem hx)⟩

end Wn
end Go.Proofs.YtaplbjoghkipdaaDoor

/- The law of wants, at a code that is not too long. -/
namespace Go.Proofs.YtaplbjoghkipdaaDoor
namespace Rd
open Go.ChangeShapes Go.WideShapes Go.ChangeAt Go.RowKit
open Pk (own_form new_below join_below heap_new lt_of kept cell_at heap_old frozen_at info_of own_below own_ne)
open Wn (Wh wnV wnB wlB wlS)
open Cur (Bytes)
open Gt (ML)
open Num (Tens)
set_option linter.unusedSimpArgs false
set_option linter.unusedVariables false

set_option maxRecDepth 100000 in
set_option maxHeartbeats 4000000 in
/-- Equal rides are found equal. -/
theorem sameRides_same (a b : Option Addr) (ls : List Ri) (c1 c2 : Nat) (w : World) (hz : ls.length ≤ 1048576) (I : Rides w a ls) (J : Rides w b ls) :
    Calls Tryd.prog 9 #[.slice a ls.length c1, .slice b ls.length c2] w fun e w' => e = .returned (.bool true) ∧ Below w.heap.size w w' := by
  go_enter Tryd.func9, Tryd.ntmps9
  go_wp2
  go_loopw [5] (fun i wr => ∃ (k n : Nat), k ≤ ls.length ∧ i = .int .i64 k ∧ wr = w.drewN n) (fun i _ => ls.length - (intOf i).toNat)
  case atStart => exact ⟨0, 0, by omega, rfl, rfl⟩
  case round =>
    obtain ⟨k, n, hk, rfl, rfl⟩ := hrel
    by_cases hkn : k < ls.length
    · obtain ⟨x, o, rfl, hx, h0, h1, h2, h3⟩ := I.at k hkn
      obtain ⟨y, u, rfl, hy, g0, g1, g2, g3⟩ := J.at k hkn
      generalize ls[k] = z at *
      go_wp2
      go_quiet (fail)
      go_wp2
      go_roundw
      case rel => exact ⟨k + 1, n + nq, by omega, by go_num, rfl⟩
      case measure => simp [intOf]; omega
    · go_wp2
      go_ret
      exact ⟨rfl, ⟨rfl, rfl, rfl, Nat.le_refl _, fun _ _ => rfl⟩⟩

set_option maxRecDepth 100000 in
set_option maxHeartbeats 8000000 in
theorem want_law (a : Option Addr) (n cap : Nat) (w1 : World) (hb : n ≤ 1048576) (BY : Bytes w1 a n) (TN : Tens w1) (MM : ML w1) :
    Calls Tryd.prog 3 #[.slice a n cap] w1 fun e w' => e = .returned (.bool true) ∧ Below w1.heap.size w1 w' := by
  go_enter Tryd.func3, Tryd.ntmps3
  go_wp2_with fail
  refine (Cur.big_no a n cap _ hb).mono ?_
  rintro e w1 ⟨rfl, rfl⟩
  go_wp2_with fail
  refine (drawWL _ a n cap hb BY).mono ?_
  rintro e w2 ⟨⟨t, nm, ls, va, vc, rfl, hnm, hln, D⟩, BL⟩
  replace BY := BY.on BL
  replace TN := TN.on BL
  replace MM := MM.on BL
  have HPI : Hid (∀ W : World, Rides W va ls → Tens W → _) := fun W h g => Wn.implWantLine_val t nm va ls vc W (by unfold maxLen; omega) (by omega) h g
  have HPS : Hid (∀ W : World, Rides W va ls → _) := fun W h => Wn.specWantLine_val t nm va ls vc W (by unfold maxLen; omega) (by omega) h
  have HSM : Hid (∀ (W : World) (b : Option Addr) (c2 : Nat), Rides W b ls → Rides W va ls → _) := fun W b c2 h g => sameRides_same b va ls c2 vc W (by omega) h g
  have HGS : Hid (wlB t nm ls = true → Wn.Good (wlS t nm ls) t nm ls) := fun h => ⟨h, (Wn.wlS_yes h).symm⟩
  have HPZ : Hid ((wlS t nm ls).size ≤ 1000) := wl_small hnm
  obtain ⟨s1, hs1⟩ : ∃ s, wlS t nm ls = s := ⟨_, rfl⟩
  obtain ⟨ok, hok⟩ : ∃ b, wlB t nm ls = b := ⟨_, rfl⟩
  simp only [hs1, hok] at HPI HPS HGS HPZ
  clear hs1 hok hnm
  have NA := new_below w2 (wnB t nm va ls.length vc 26)
  have q1 := heap_new w2 (wnB t nm va ls.length vc 26)
  replace BL := join_below BL NA
  replace BY := BY.on NA
  replace TN := TN.on NA
  replace MM := MM.on NA
  replace D := D.on NA
  clear NA
  have a0 : (w2.alloc (wnB t nm va ls.length vc 26)).cell? ⟨w2.heap.size, 0, none⟩ = some (.int .i64 t.kd) := cell_at q1 0
  have a1 : (w2.alloc (wnB t nm va ls.length vc 26)).cell? ⟨w2.heap.size, 1, none⟩ = some (.int .i64 t.rq) := cell_at q1 1
  have a2 : (w2.alloc (wnB t nm va ls.length vc 26)).cell? ⟨w2.heap.size, 2, none⟩ = some (.int .i64 t.od) := cell_at q1 2
  have a3 : (w2.alloc (wnB t nm va ls.length vc 26)).cell? ⟨w2.heap.size, 3, none⟩ = some (.string nm) := cell_at q1 3
  have a4 : (w2.alloc (wnB t nm va ls.length vc 26)).cell? ⟨w2.heap.size, 4, none⟩ = some (.int .i64 t.cl) := cell_at q1 4
  have a5 : (w2.alloc (wnB t nm va ls.length vc 26)).cell? ⟨w2.heap.size, 5, none⟩ = some (.int .i64 t.cd) := cell_at q1 5
  have a6 : (w2.alloc (wnB t nm va ls.length vc 26)).cell? ⟨w2.heap.size, 6, none⟩ = some (.slice va ls.length vc) := cell_at q1 6
  go_upto_region 4 with fail
  generalize w2.heap.size = P1 at *
  generalize w2.alloc (wnB t nm va ls.length vc 26) = W3 at *
  go_wp2_with fail
  clear a0 a1 a2 a3 a4 a5 a6
  refine (HPI.out _ D.rides TN).mono ?_
  rintro e w4 ⟨rfl, L⟩
  replace BL := join_below BL L
  replace BY := BY.on L
  replace TN := TN.on L
  replace MM := MM.on L
  replace D := D.on L
  replace q1 := kept L (lt_of q1) q1
  clear L
  have a0 : w4.cell? ⟨P1, 0, none⟩ = some (.int .i64 t.kd) := cell_at q1 0
  have a1 : w4.cell? ⟨P1, 1, none⟩ = some (.int .i64 t.rq) := cell_at q1 1
  have a2 : w4.cell? ⟨P1, 2, none⟩ = some (.int .i64 t.od) := cell_at q1 2
  have a3 : w4.cell? ⟨P1, 3, none⟩ = some (.string nm) := cell_at q1 3
  have a4 : w4.cell? ⟨P1, 4, none⟩ = some (.int .i64 t.cl) := cell_at q1 4
  have a5 : w4.cell? ⟨P1, 5, none⟩ = some (.int .i64 t.cd) := cell_at q1 5
  have a6 : w4.cell? ⟨P1, 6, none⟩ = some (.slice va ls.length vc) := cell_at q1 6
  go_wp2_with fail
  clear a0 a1 a2 a3 a4 a5 a6
  refine (HPS.out _ D.rides).mono ?_
  rintro e V ⟨rfl, L⟩
  replace BL := join_below BL L
  replace BY := BY.on L
  replace TN := TN.on L
  replace MM := MM.on L
  replace D := D.on L
  replace q1 := kept L (lt_of q1) q1
  clear L HPI HPS
  cases ok
  · clear D q1 HSM HGS HPZ
    go_wp2_with fail
    refine (drawRW _ a n cap hb BY).mono ?_
    rintro e x1 ⟨⟨r, rfl, hr⟩, L⟩
    replace BL := join_below BL L
    replace BY := BY.on L
    replace TN := TN.on L
    replace MM := MM.on L
    clear L BY
    by_cases hg : ∃ t2 nm2 ls2, Wn.Good r t2 nm2 ls2
    · obtain ⟨t2, nm2, ls2, hg⟩ := hg
      have HGG : Hid (Wn.Good r t2 nm2 ls2) := hg
      have HPR : Hid (wlS t2 nm2 ls2 = r ∧ wlB t2 nm2 ls2 = true) := ⟨by rw [Wn.wlS_yes hg.1]; exact hg.2, hg.1⟩
      have HN2 : Hid (nm2.size ≤ 1001 ∧ ls2.length ≤ 6) := ⟨by have h := congrArg ByteArray.size hg.2; rw [ByteArray.size_append] at h; omega, (Wn.wl_parts hg.1).2.1⟩
      clear hg
      have HG1 := Wn.implGet_val r x1 (by omega) MM TN
      go_wp2_with fail
      refine HG1.mono ?_
      rintro e x2 ⟨hend, L⟩
      clear HG1
      rcases Or.symm hend with ⟨hn3, -⟩ | ⟨t3, nm3, ls3, a2, c2, hg3, rfl, O2⟩
      · exact absurd HGG.out (hn3 _ _ _)
      obtain ⟨rfl, rfl, rfl⟩ := Wn.good_one HGG.out hg3
      clear hg3
      replace BL := join_below BL L
      replace TN := TN.on L
      replace MM := MM.on L
      clear L
      have I2 : Rides x2 a2 ls2 := by
        obtain ⟨a5, c5, e5, I⟩ := Wn.own_rides O2
        simp only [Value.slice.injEq, true_and] at e5
        rw [e5.1]
        exact I
      clear O2
      have NA := new_below x2 (wnB t2 nm2 a2 ls2.length c2 26)
      have q6 := heap_new x2 (wnB t2 nm2 a2 ls2.length c2 26)
      replace BL := join_below BL NA
      replace TN := TN.on NA
      replace MM := MM.on NA
      replace I2 := I2.on NA
      clear NA
      go_wp2_with fail
      generalize x2.heap.size = P6 at *
      generalize x2.alloc (wnB t2 nm2 a2 ls2.length c2 26) = x3 at *
      refine (Wn.specGet_val r x3 (by omega)).mono ?_
      rintro e x4 ⟨hend, L⟩
      rcases Or.symm hend with ⟨hn3, -⟩ | ⟨t3, nm3, ls3, a3, c3, hg3, rfl, O3⟩
      · exact absurd HGG.out (hn3 _ _ _)
      obtain ⟨rfl, rfl, rfl⟩ := Wn.good_one HGG.out hg3
      clear hg3 O3
      replace BL := join_below BL L
      replace TN := TN.on L
      replace MM := MM.on L
      replace I2 := I2.on L
      replace q6 := kept L (lt_of q6) q6
      clear L
      have NA := new_below x4 (wnB t2 nm2 a3 ls2.length c3 26)
      have q7 := heap_new x4 (wnB t2 nm2 a3 ls2.length c3 26)
      replace BL := join_below BL NA
      replace TN := TN.on NA
      replace MM := MM.on NA
      replace I2 := I2.on NA
      replace q6 := kept NA (lt_of q6) q6
      clear NA
      have za0 : (x4.alloc (wnB t2 nm2 a3 ls2.length c3 26)).cell? ⟨P6, 0, none⟩ = some (.int .i64 t2.kd) := cell_at q6 0
      have za1 : (x4.alloc (wnB t2 nm2 a3 ls2.length c3 26)).cell? ⟨P6, 1, none⟩ = some (.int .i64 t2.rq) := cell_at q6 1
      have za2 : (x4.alloc (wnB t2 nm2 a3 ls2.length c3 26)).cell? ⟨P6, 2, none⟩ = some (.int .i64 t2.od) := cell_at q6 2
      have za3 : (x4.alloc (wnB t2 nm2 a3 ls2.length c3 26)).cell? ⟨P6, 3, none⟩ = some (.string nm2) := cell_at q6 3
      have za4 : (x4.alloc (wnB t2 nm2 a3 ls2.length c3 26)).cell? ⟨P6, 4, none⟩ = some (.int .i64 t2.cl) := cell_at q6 4
      have za5 : (x4.alloc (wnB t2 nm2 a3 ls2.length c3 26)).cell? ⟨P6, 5, none⟩ = some (.int .i64 t2.cd) := cell_at q6 5
      have za6 : (x4.alloc (wnB t2 nm2 a3 ls2.length c3 26)).cell? ⟨P6, 6, none⟩ = some (.slice a2 ls2.length c2) := cell_at q6 6
      have HP2 := Wn.implWantLine_val t2 nm2 a2 ls2 c2 (x4.alloc (wnB t2 nm2 a3 ls2.length c3 26)) (by have := HN2.out; unfold maxLen; omega) (by have := HN2.out; omega) I2 TN
      rw [HPR.out.1, HPR.out.2] at HP2
      go_wp2_with fail
      refine HP2.mono ?_
      rintro e x5 ⟨rfl, L⟩
      clear HP2
      replace BL := join_below BL L
      replace TN := TN.on L
      replace MM := MM.on L
      replace I2 := I2.on L
      replace q6 := kept L (lt_of q6) q6
      replace q7 := kept L (lt_of q7) q7
      go_wp2
      go_ret
      exact ⟨rfl, BL⟩
    · have HNG : Hid (∀ t nm ls, ¬ Wn.Good r t nm ls) := fun t nm ls h => hg ⟨t, nm, ls, h⟩
      clear hg
      have HG1 := Wn.implGet_val r x1 (by omega) MM TN
      go_wp2_with fail
      refine HG1.mono ?_
      rintro e x2 ⟨hend, L⟩
      clear HG1
      rcases hend with ⟨t3, nm3, ls3, a2, c2, hg3, rfl, O2⟩ | ⟨-, rfl⟩
      · exact absurd hg3 (HNG.out _ _ _)
      replace BL := join_below BL L
      replace TN := TN.on L
      replace MM := MM.on L
      clear L
      have NA := new_below x2 (wnB ⟨0, 0, 0, 0, 0⟩ ⟨#[]⟩ none 0 0 26)
      have q6 := heap_new x2 (wnB ⟨0, 0, 0, 0, 0⟩ ⟨#[]⟩ none 0 0 26)
      replace BL := join_below BL NA
      replace TN := TN.on NA
      replace MM := MM.on NA
      clear NA
      go_wp2_with fail
      generalize x2.heap.size = P6 at *
      generalize x2.alloc (wnB ⟨0, 0, 0, 0, 0⟩ ⟨#[]⟩ none 0 0 26) = x3 at *
      refine (Wn.specGet_val r x3 (by omega)).mono ?_
      rintro e x4 ⟨hend, L⟩
      rcases hend with ⟨t3, nm3, ls3, a3, c3, hg3, rfl, O3⟩ | ⟨-, rfl⟩
      · exact absurd hg3 (HNG.out _ _ _)
      replace BL := join_below BL L
      replace TN := TN.on L
      replace MM := MM.on L
      replace q6 := kept L (lt_of q6) q6
      clear L
      have NA := new_below x4 (wnB ⟨0, 0, 0, 0, 0⟩ ⟨#[]⟩ none 0 0 26)
      have q7 := heap_new x4 (wnB ⟨0, 0, 0, 0, 0⟩ ⟨#[]⟩ none 0 0 26)
      replace BL := join_below BL NA
      replace TN := TN.on NA
      replace MM := MM.on NA
      replace q6 := kept NA (lt_of q6) q6
      clear NA
      have za0 : (x4.alloc (wnB ⟨0, 0, 0, 0, 0⟩ ⟨#[]⟩ none 0 0 26)).cell? ⟨P6, 0, none⟩ = some (.int .i64 0) := cell_at q6 0
      have za1 : (x4.alloc (wnB ⟨0, 0, 0, 0, 0⟩ ⟨#[]⟩ none 0 0 26)).cell? ⟨P6, 1, none⟩ = some (.int .i64 0) := cell_at q6 1
      have za2 : (x4.alloc (wnB ⟨0, 0, 0, 0, 0⟩ ⟨#[]⟩ none 0 0 26)).cell? ⟨P6, 2, none⟩ = some (.int .i64 0) := cell_at q6 2
      have za3 : (x4.alloc (wnB ⟨0, 0, 0, 0, 0⟩ ⟨#[]⟩ none 0 0 26)).cell? ⟨P6, 3, none⟩ = some (.string ⟨#[]⟩) := cell_at q6 3
      have za4 : (x4.alloc (wnB ⟨0, 0, 0, 0, 0⟩ ⟨#[]⟩ none 0 0 26)).cell? ⟨P6, 4, none⟩ = some (.int .i64 0) := cell_at q6 4
      have za5 : (x4.alloc (wnB ⟨0, 0, 0, 0, 0⟩ ⟨#[]⟩ none 0 0 26)).cell? ⟨P6, 5, none⟩ = some (.int .i64 0) := cell_at q6 5
      have za6 : (x4.alloc (wnB ⟨0, 0, 0, 0, 0⟩ ⟨#[]⟩ none 0 0 26)).cell? ⟨P6, 6, none⟩ = some (.slice none 0 0) := cell_at q6 6
      have HP2 := Wn.implWantLine_val ⟨0, 0, 0, 0, 0⟩ ⟨#[]⟩ none [] 0 (x4.alloc (wnB ⟨0, 0, 0, 0, 0⟩ ⟨#[]⟩ none 0 0 26)) (by decide) (by decide) (Or.inl rfl) TN
      generalize wlS ⟨0, 0, 0, 0, 0⟩ ⟨#[]⟩ [] = s9 at *
      generalize wlB ⟨0, 0, 0, 0, 0⟩ ⟨#[]⟩ [] = o9 at *
      go_wp2_with fail
      refine HP2.mono ?_
      rintro e x5 ⟨rfl, L⟩
      clear HP2
      replace BL := join_below BL L
      replace TN := TN.on L
      replace MM := MM.on L
      replace q6 := kept L (lt_of q6) q6
      replace q7 := kept L (lt_of q7) q7
      go_wp2
      go_ret
      exact ⟨rfl, BL⟩
  · have HG0 := Wn.implGet_val s1 V (by have := HPZ.out; omega) MM TN
    go_wp2_with fail
    refine HG0.mono ?_
    rintro e y1 ⟨hend, L⟩
    clear HG0
    rcases Or.symm hend with ⟨hn3, -⟩ | ⟨t3, nm3, ls3, b2, cb, hg3, rfl, O2⟩
    · exact absurd (HGS.out (by first | rfl | exact trivial)) (hn3 _ _ _)
    obtain ⟨rfl, rfl, rfl⟩ := Wn.good_one (HGS.out (by first | rfl | exact trivial)) hg3
    clear hg3
    replace BL := join_below BL L
    replace BY := BY.on L
    replace TN := TN.on L
    replace MM := MM.on L
    replace D := D.on L
    replace q1 := kept L (lt_of q1) q1
    clear L
    have I2 : Rides y1 b2 ls := by
      obtain ⟨a5, c5, e5, I⟩ := Wn.own_rides O2
      simp only [Value.slice.injEq, true_and] at e5
      rw [e5.1]
      exact I
    clear O2
    have NA := new_below y1 (wnB t nm b2 ls.length cb 26)
    have q2 := heap_new y1 (wnB t nm b2 ls.length cb 26)
    replace BL := join_below BL NA
    replace BY := BY.on NA
    replace TN := TN.on NA
    replace MM := MM.on NA
    replace D := D.on NA
    replace q1 := kept NA (lt_of q1) q1
    replace I2 := I2.on NA
    clear NA
    have za0 : (y1.alloc (wnB t nm b2 ls.length cb 26)).cell? ⟨y1.heap.size, 0, none⟩ = some (.int .i64 t.kd) := cell_at q2 0
    have za1 : (y1.alloc (wnB t nm b2 ls.length cb 26)).cell? ⟨y1.heap.size, 1, none⟩ = some (.int .i64 t.rq) := cell_at q2 1
    have za2 : (y1.alloc (wnB t nm b2 ls.length cb 26)).cell? ⟨y1.heap.size, 2, none⟩ = some (.int .i64 t.od) := cell_at q2 2
    have za3 : (y1.alloc (wnB t nm b2 ls.length cb 26)).cell? ⟨y1.heap.size, 3, none⟩ = some (.string nm) := cell_at q2 3
    have za4 : (y1.alloc (wnB t nm b2 ls.length cb 26)).cell? ⟨y1.heap.size, 4, none⟩ = some (.int .i64 t.cl) := cell_at q2 4
    have za5 : (y1.alloc (wnB t nm b2 ls.length cb 26)).cell? ⟨y1.heap.size, 5, none⟩ = some (.int .i64 t.cd) := cell_at q2 5
    have za6 : (y1.alloc (wnB t nm b2 ls.length cb 26)).cell? ⟨y1.heap.size, 6, none⟩ = some (.slice b2 ls.length cb) := cell_at q2 6
    have zb0 : (y1.alloc (wnB t nm b2 ls.length cb 26)).cell? ⟨P1, 0, none⟩ = some (.int .i64 t.kd) := cell_at q1 0
    have zb1 : (y1.alloc (wnB t nm b2 ls.length cb 26)).cell? ⟨P1, 1, none⟩ = some (.int .i64 t.rq) := cell_at q1 1
    have zb2 : (y1.alloc (wnB t nm b2 ls.length cb 26)).cell? ⟨P1, 2, none⟩ = some (.int .i64 t.od) := cell_at q1 2
    have zb3 : (y1.alloc (wnB t nm b2 ls.length cb 26)).cell? ⟨P1, 3, none⟩ = some (.string nm) := cell_at q1 3
    have zb4 : (y1.alloc (wnB t nm b2 ls.length cb 26)).cell? ⟨P1, 4, none⟩ = some (.int .i64 t.cl) := cell_at q1 4
    have zb5 : (y1.alloc (wnB t nm b2 ls.length cb 26)).cell? ⟨P1, 5, none⟩ = some (.int .i64 t.cd) := cell_at q1 5
    have zb6 : (y1.alloc (wnB t nm b2 ls.length cb 26)).cell? ⟨P1, 6, none⟩ = some (.slice va ls.length vc) := cell_at q1 6
    have HSV := HSM.out (y1.alloc (wnB t nm b2 ls.length cb 26)) b2 cb I2 D.rides
    go_wp2_with fail
    refine HSV.mono ?_
    rintro e y3 ⟨rfl, L⟩
    clear HSV
    replace BL := join_below BL L
    replace BY := BY.on L
    replace TN := TN.on L
    replace MM := MM.on L
    replace D := D.on L
    replace q1 := kept L (lt_of q1) q1
    replace I2 := I2.on L
    replace q2 := kept L (lt_of q2) q2
    clear L D q1 q2 I2 HSM HGS HPZ
    go_wp2_with fail
    refine (drawRW _ a n cap hb BY).mono ?_
    rintro e x1 ⟨⟨r, rfl, hr⟩, L⟩
    replace BL := join_below BL L
    replace BY := BY.on L
    replace TN := TN.on L
    replace MM := MM.on L
    clear L BY
    by_cases hg : ∃ t2 nm2 ls2, Wn.Good r t2 nm2 ls2
    · obtain ⟨t2, nm2, ls2, hg⟩ := hg
      have HGG : Hid (Wn.Good r t2 nm2 ls2) := hg
      have HPR : Hid (wlS t2 nm2 ls2 = r ∧ wlB t2 nm2 ls2 = true) := ⟨by rw [Wn.wlS_yes hg.1]; exact hg.2, hg.1⟩
      have HN2 : Hid (nm2.size ≤ 1001 ∧ ls2.length ≤ 6) := ⟨by have h := congrArg ByteArray.size hg.2; rw [ByteArray.size_append] at h; omega, (Wn.wl_parts hg.1).2.1⟩
      clear hg
      have HG1 := Wn.implGet_val r x1 (by omega) MM TN
      go_wp2_with fail
      refine HG1.mono ?_
      rintro e x2 ⟨hend, L⟩
      clear HG1
      rcases Or.symm hend with ⟨hn3, -⟩ | ⟨t3, nm3, ls3, a2, c2, hg3, rfl, O2⟩
      · exact absurd HGG.out (hn3 _ _ _)
      obtain ⟨rfl, rfl, rfl⟩ := Wn.good_one HGG.out hg3
      clear hg3
      replace BL := join_below BL L
      replace TN := TN.on L
      replace MM := MM.on L
      clear L
      have I2 : Rides x2 a2 ls2 := by
        obtain ⟨a5, c5, e5, I⟩ := Wn.own_rides O2
        simp only [Value.slice.injEq, true_and] at e5
        rw [e5.1]
        exact I
      clear O2
      have NA := new_below x2 (wnB t2 nm2 a2 ls2.length c2 26)
      have q6 := heap_new x2 (wnB t2 nm2 a2 ls2.length c2 26)
      replace BL := join_below BL NA
      replace TN := TN.on NA
      replace MM := MM.on NA
      replace I2 := I2.on NA
      clear NA
      go_wp2_with fail
      generalize x2.heap.size = P6 at *
      generalize x2.alloc (wnB t2 nm2 a2 ls2.length c2 26) = x3 at *
      refine (Wn.specGet_val r x3 (by omega)).mono ?_
      rintro e x4 ⟨hend, L⟩
      rcases Or.symm hend with ⟨hn3, -⟩ | ⟨t3, nm3, ls3, a3, c3, hg3, rfl, O3⟩
      · exact absurd HGG.out (hn3 _ _ _)
      obtain ⟨rfl, rfl, rfl⟩ := Wn.good_one HGG.out hg3
      clear hg3 O3
      replace BL := join_below BL L
      replace TN := TN.on L
      replace MM := MM.on L
      replace I2 := I2.on L
      replace q6 := kept L (lt_of q6) q6
      clear L
      have NA := new_below x4 (wnB t2 nm2 a3 ls2.length c3 26)
      have q7 := heap_new x4 (wnB t2 nm2 a3 ls2.length c3 26)
      replace BL := join_below BL NA
      replace TN := TN.on NA
      replace MM := MM.on NA
      replace I2 := I2.on NA
      replace q6 := kept NA (lt_of q6) q6
      clear NA
      have za0 : (x4.alloc (wnB t2 nm2 a3 ls2.length c3 26)).cell? ⟨P6, 0, none⟩ = some (.int .i64 t2.kd) := cell_at q6 0
      have za1 : (x4.alloc (wnB t2 nm2 a3 ls2.length c3 26)).cell? ⟨P6, 1, none⟩ = some (.int .i64 t2.rq) := cell_at q6 1
      have za2 : (x4.alloc (wnB t2 nm2 a3 ls2.length c3 26)).cell? ⟨P6, 2, none⟩ = some (.int .i64 t2.od) := cell_at q6 2
      have za3 : (x4.alloc (wnB t2 nm2 a3 ls2.length c3 26)).cell? ⟨P6, 3, none⟩ = some (.string nm2) := cell_at q6 3
      have za4 : (x4.alloc (wnB t2 nm2 a3 ls2.length c3 26)).cell? ⟨P6, 4, none⟩ = some (.int .i64 t2.cl) := cell_at q6 4
      have za5 : (x4.alloc (wnB t2 nm2 a3 ls2.length c3 26)).cell? ⟨P6, 5, none⟩ = some (.int .i64 t2.cd) := cell_at q6 5
      have za6 : (x4.alloc (wnB t2 nm2 a3 ls2.length c3 26)).cell? ⟨P6, 6, none⟩ = some (.slice a2 ls2.length c2) := cell_at q6 6
      have HP2 := Wn.implWantLine_val t2 nm2 a2 ls2 c2 (x4.alloc (wnB t2 nm2 a3 ls2.length c3 26)) (by have := HN2.out; unfold maxLen; omega) (by have := HN2.out; omega) I2 TN
      rw [HPR.out.1, HPR.out.2] at HP2
      go_wp2_with fail
      refine HP2.mono ?_
      rintro e x5 ⟨rfl, L⟩
      clear HP2
      replace BL := join_below BL L
      replace TN := TN.on L
      replace MM := MM.on L
      replace I2 := I2.on L
      replace q6 := kept L (lt_of q6) q6
      replace q7 := kept L (lt_of q7) q7
      go_wp2
      go_ret
      exact ⟨rfl, BL⟩
    · have HNG : Hid (∀ t nm ls, ¬ Wn.Good r t nm ls) := fun t nm ls h => hg ⟨t, nm, ls, h⟩
      clear hg
      have HG1 := Wn.implGet_val r x1 (by omega) MM TN
      go_wp2_with fail
      refine HG1.mono ?_
      rintro e x2 ⟨hend, L⟩
      clear HG1
      rcases hend with ⟨t3, nm3, ls3, a2, c2, hg3, rfl, O2⟩ | ⟨-, rfl⟩
      · exact absurd hg3 (HNG.out _ _ _)
      replace BL := join_below BL L
      replace TN := TN.on L
      replace MM := MM.on L
      clear L
      have NA := new_below x2 (wnB ⟨0, 0, 0, 0, 0⟩ ⟨#[]⟩ none 0 0 26)
      have q6 := heap_new x2 (wnB ⟨0, 0, 0, 0, 0⟩ ⟨#[]⟩ none 0 0 26)
      replace BL := join_below BL NA
      replace TN := TN.on NA
      replace MM := MM.on NA
      clear NA
      go_wp2_with fail
      generalize x2.heap.size = P6 at *
      generalize x2.alloc (wnB ⟨0, 0, 0, 0, 0⟩ ⟨#[]⟩ none 0 0 26) = x3 at *
      refine (Wn.specGet_val r x3 (by omega)).mono ?_
      rintro e x4 ⟨hend, L⟩
      rcases hend with ⟨t3, nm3, ls3, a3, c3, hg3, rfl, O3⟩ | ⟨-, rfl⟩
      · exact absurd hg3 (HNG.out _ _ _)
      replace BL := join_below BL L
      replace TN := TN.on L
      replace MM := MM.on L
      replace q6 := kept L (lt_of q6) q6
      clear L
      have NA := new_below x4 (wnB ⟨0, 0, 0, 0, 0⟩ ⟨#[]⟩ none 0 0 26)
      have q7 := heap_new x4 (wnB ⟨0, 0, 0, 0, 0⟩ ⟨#[]⟩ none 0 0 26)
      replace BL := join_below BL NA
      replace TN := TN.on NA
      replace MM := MM.on NA
      replace q6 := kept NA (lt_of q6) q6
      clear NA
      have za0 : (x4.alloc (wnB ⟨0, 0, 0, 0, 0⟩ ⟨#[]⟩ none 0 0 26)).cell? ⟨P6, 0, none⟩ = some (.int .i64 0) := cell_at q6 0
      have za1 : (x4.alloc (wnB ⟨0, 0, 0, 0, 0⟩ ⟨#[]⟩ none 0 0 26)).cell? ⟨P6, 1, none⟩ = some (.int .i64 0) := cell_at q6 1
      have za2 : (x4.alloc (wnB ⟨0, 0, 0, 0, 0⟩ ⟨#[]⟩ none 0 0 26)).cell? ⟨P6, 2, none⟩ = some (.int .i64 0) := cell_at q6 2
      have za3 : (x4.alloc (wnB ⟨0, 0, 0, 0, 0⟩ ⟨#[]⟩ none 0 0 26)).cell? ⟨P6, 3, none⟩ = some (.string ⟨#[]⟩) := cell_at q6 3
      have za4 : (x4.alloc (wnB ⟨0, 0, 0, 0, 0⟩ ⟨#[]⟩ none 0 0 26)).cell? ⟨P6, 4, none⟩ = some (.int .i64 0) := cell_at q6 4
      have za5 : (x4.alloc (wnB ⟨0, 0, 0, 0, 0⟩ ⟨#[]⟩ none 0 0 26)).cell? ⟨P6, 5, none⟩ = some (.int .i64 0) := cell_at q6 5
      have za6 : (x4.alloc (wnB ⟨0, 0, 0, 0, 0⟩ ⟨#[]⟩ none 0 0 26)).cell? ⟨P6, 6, none⟩ = some (.slice none 0 0) := cell_at q6 6
      have HP2 := Wn.implWantLine_val ⟨0, 0, 0, 0, 0⟩ ⟨#[]⟩ none [] 0 (x4.alloc (wnB ⟨0, 0, 0, 0, 0⟩ ⟨#[]⟩ none 0 0 26)) (by decide) (by decide) (Or.inl rfl) TN
      generalize wlS ⟨0, 0, 0, 0, 0⟩ ⟨#[]⟩ [] = s9 at *
      generalize wlB ⟨0, 0, 0, 0, 0⟩ ⟨#[]⟩ [] = o9 at *
      go_wp2_with fail
      refine HP2.mono ?_
      rintro e x5 ⟨rfl, L⟩
      clear HP2
      replace BL := join_below BL L
      replace TN := TN.on L
      replace MM := MM.on L
      replace q6 := kept L (lt_of q6) q6
      replace q7 := kept L (lt_of q7) q7
      go_wp2
      go_ret
      exact ⟨rfl, BL⟩

end Rd
end Go.Proofs.YtaplbjoghkipdaaDoor
