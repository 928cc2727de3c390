/- Contract of the program's Sign: the first draw that will do. -/
import Derived.Test.YtllmmelnkkmfoaaDoorSignOnce3
import Derived.Test.YtllmmelnkkmfoaaDoorSignVals
import Derived.Test.YtllmmelnkkmfoaaDoorSignIs
namespace Go.Proofs.YtllmmelnkkmfoaaDoor
namespace Num
open Go.ChangeShapes Go.WideShapes Go.ChangeAt Go.RowKit
set_option linter.unusedSimpArgs false
set_option linter.unusedVariables false

theorem signI_rel {w wr w' : World} {p q g x h : Int} {a : Option Addr} {ea : Addr} {zs : List Int} {k gn : Nat} (LR : Below w.heap.size w wr) (RC : wr.heap[gn]? = some (gb p q g x h)) (RB : wr.heap[w.heap.size + 1]? = some (mb 0 0)) (RI : Ints wr a zs) (RE : wr.cell? ⟨0, 0, none⟩ = some (.iface 123 (.pointer (some ea)))) (K : Below wr.heap.size wr w') (H : Hid (sg p q g x h zs 0 = sg p q g x h (zs.drop k) k)) :
    Below w.heap.size w w' ∧ w'.heap[gn]? = some (gb p q g x h) ∧ w'.heap[w.heap.size + 1]? = some (mb 0 0) ∧ Ints w' a zs ∧ w'.cell? ⟨0, 0, none⟩ = some (.iface 123 (.pointer (some ea))) ∧ Hid (sg p q g x h zs 0 = sg p q g x h (zs.drop k) k) :=
  ⟨LR.trans (K.mono LR.size), kept_new K RC, kept_new K RB, RI.on K, (K.cell (p := ⟨0, 0, none⟩) (err_lt RE)).trans RE, H⟩

set_option maxHeartbeats 4000000 in
theorem implSign_val (p q g x : Int) (t : ByteArray) (a : Option Addr) (zs : List Int) (cap : Nat) (w : World) (ht : t.size ≤ maxLen) (hz : zs.length ≤ 9223372036854775807) (I : Ints w a zs) (E1 : Errs.ErrAt 1 w) (E2 : Errs.ErrAt 2 w) (E3 : Errs.ErrAt 3 w) (E4 : Errs.ErrAt 0 w) :
    Calls Tryd.prog 14 #[pv p q g, .int .i64 x, .string t, .slice a zs.length cap] w fun e w' => e = .returned (sv (signV p q g x t zs)) ∧ Below w.heap.size w w' := by
  obtain ⟨L0, b1, b2⟩ := two w (pb p q g) (mb 0 0)
  cases hs : signB p q g x t
  · have HE : Hid (_) := signV_no (zs := zs) (Or.inl hs)
    have HS : Hid (signB p q g x t = false) := hs
    clear hs I
    go_enter Tryd.func14, Tryd.ntmps14
    go_wp2_with fail
    refine (signerOf_no p q g x t _ ht HS.out (E1.on L0) (E2.on L0) (E3.on L0)).mono ?_
    rintro e w3 ⟨⟨ea, rfl⟩, L1⟩
    have hB6 := heap_old (kept_new L1 b2) (gb 0 0 0 0 0)
    have L2 := join_below L0 L1
    have d0 : (w3.alloc (gb 0 0 0 0 0)).cell? ⟨w.heap.size + 1, 0, none⟩ = some (.int .i64 0) := cell_at hB6 0
    have d1 : (w3.alloc (gb 0 0 0 0 0)).cell? ⟨w.heap.size + 1, 1, none⟩ = some (.int .i64 0) := cell_at hB6 1
    have f0 : (w3.alloc (gb 0 0 0 0 0)).frozen? ⟨w.heap.size + 1, 0, none⟩ = false := frozen_at hB6 0
    have f1 : (w3.alloc (gb 0 0 0 0 0)).frozen? ⟨w.heap.size + 1, 1, none⟩ = false := frozen_at hB6 1
    clear L0 b1 b2 L1 hB6
    go_wp2
    refine bodyPost_ret (v := sv (0, 0, -1, false)) (by simp [results, Tryd.results14, go_sem, d0, d1]) rfl ?_
    rw [HE.out]
    exact ⟨rfl, ((L2.alloc L2.size _).setCell (by simp) _).setCell (by simp) _⟩
  · have HS : Hid (signB p q g x t = true) := hs
    obtain ⟨hok, hx, h5⟩ := signB_facts hs
    obtain ⟨-, hq, -⟩ := okP_facts hok
    have hh := hV_bd t hq
    have HOK : Hid (okP p q g = true) := hok
    have HH : Hid (0 ≤ hV t q ∧ hV t q < q) := hh
    by_cases hn : zs.length ≤ 100
    · have HE : Hid (signV p q g x t zs = sg p q g x (hV t q) zs 0) := if_pos ⟨hs, hn⟩
      have hd2 : decide ((100 : Int) < zs.length) = false := by simp; omega
      clear hs hok hq hh
      go_enter Tryd.func14, Tryd.ntmps14
      go_wp2_with fail
      refine (signerOf_yes p q g x t _ HS.out).mono ?_
      rintro e w3 ⟨rfl, L1⟩
      generalize hV t q = h at *
      have L2 := join_below L0 L1
      have L3 := join_below L2 (new_below w3 (gb p q g x h))
      obtain ⟨ea, ha⟩ := err_cell (E4.on L3)
      have hB6 := heap_old (kept_new L1 b2) (gb p q g x h)
      have hG := heap_new w3 (gb p q g x h)
      have I3 := I.on L3
      clear L0 b1 b2 L1 L2 I
      generalize hgn : w3.heap.size = gn at *
      go_wp2
      generalize w3.alloc (gb p q g x h) = w4 at *
      clear hgn
      go_loopw [34] (fun i wr => ∃ k : Nat, k ≤ zs.length ∧ i = .int .i64 k ∧ Below w.heap.size w wr ∧ wr.heap[gn]? = some (gb p q g x h) ∧ wr.heap[w.heap.size + 1]? = some (mb 0 0) ∧ Ints wr a zs ∧ wr.cell? ⟨0, 0, none⟩ = some (.iface 123 (.pointer (some ea))) ∧ Hid (sg p q g x h zs 0 = sg p q g x h (zs.drop k) k)) (fun i _ => zs.length - (intOf i).toNat)
      case atStart => exact ⟨0, by omega, rfl, L3, hG, hB6, I3, ha, by show _ = _; simp⟩
      case round =>
        obtain ⟨k, hk, rfl, LR, RC, RB, RI, RE, HN⟩ := hrel
        clear L3 hG hB6 I3 ha
        have g0 : wr.cell? ⟨gn, 0, none⟩ = some (.int .i64 p) := cell_at RC 0
        have g1 : wr.cell? ⟨gn, 1, none⟩ = some (.int .i64 q) := cell_at RC 1
        have g2 : wr.cell? ⟨gn, 2, none⟩ = some (.int .i64 g) := cell_at RC 2
        have g3 : wr.cell? ⟨gn, 3, none⟩ = some (.int .i64 x) := cell_at RC 3
        have g4 : wr.cell? ⟨gn, 4, none⟩ = some (.int .i64 h) := cell_at RC 4
        by_cases hkn : k < zs.length
        · obtain ⟨b, o, rfl, hlt, hcell⟩ := RI.at k hkn
          cases hdo : doV p q g x h zs[k]
          · have HC : Hid (∀ w, w.cell? ⟨0, 0, none⟩ = some (.iface 123 (.pointer (some ea))) → Calls Tryd.prog 33 #[gv p q g x h, .int .i64 zs[k]] w fun e w' => e = .returned (.tuple #[mv 0 0, .iface 123 (.pointer (some ea))]) ∧ Below w.heap.size w w') := by
              intro w hw
              have := markBy_val p q g x h zs[k] w HOK.out hx HH.out ea hw (err_lt hw)
              rwa [(once_no hdo).1, (once_no hdo).2, hdo] at this
            have HR : Hid (_) := HN.out.trans (sg_no hkn hdo)
            clear hdo HN
            generalize zs[k] = z at *
            go_wp2_with fail
            refine (HC.out _ RE).mono ?_
            rintro e w5 ⟨rfl, L5⟩
            have K := join_below L5 (new_below w5 (mb 0 0))
            have e5 := (K.cell (p := ⟨0, 0, none⟩) (err_lt RE)).trans RE
            go_wp2_with fail
            refine (is_same ea _).mono ?_
            rintro e w6 ⟨rfl, rfl⟩
            go_wp2
            go_roundw
            case rel => exact ⟨k + 1, by omega, by go_num, signI_rel LR RC RB RI RE K HR⟩
            case measure => simp [intOf]; omega
          · have HC : Hid (∀ w, w.cell? ⟨0, 0, none⟩ = some (.iface 123 (.pointer (some ea))) → Calls Tryd.prog 33 #[gv p q g x h, .int .i64 zs[k]] w fun e w' => e = .returned (.tuple #[mv (rV p q g zs[k]) (sV p q g x h zs[k]), .nilIface]) ∧ Below w.heap.size w w') := by
              intro w hw
              have := markBy_val p q g x h zs[k] w HOK.out hx HH.out ea hw (err_lt hw)
              rwa [(once_yes hdo).1, (once_yes hdo).2, hdo] at this
            have HR : Hid (_) := HE.out.trans (HN.out.trans (sg_yes hkn hdo))
            clear hdo HN HE
            generalize rV p q g zs[k] = r at *
            generalize sV p q g x h zs[k] = s at *
            generalize zs[k] = z at *
            go_wp2_with fail
            refine (HC.out _ RE).mono ?_
            rintro e w5 ⟨rfl, L5⟩
            have K := join_below L5 (new_below w5 (mb r s))
            have e5 := (K.cell (p := ⟨0, 0, none⟩) (err_lt RE)).trans RE
            have hB7 := kept_new K RB
            have d0 : (w5.alloc (mb r s)).cell? ⟨w.heap.size + 1, 0, none⟩ = some (.int .i64 0) := cell_at hB7 0
            have d1 : (w5.alloc (mb r s)).cell? ⟨w.heap.size + 1, 1, none⟩ = some (.int .i64 0) := cell_at hB7 1
            have f0 : (w5.alloc (mb r s)).frozen? ⟨w.heap.size + 1, 0, none⟩ = false := frozen_at hB7 0
            have f1 : (w5.alloc (mb r s)).frozen? ⟨w.heap.size + 1, 1, none⟩ = false := frozen_at hB7 1
            clear hB7
            go_wp2_with fail
            refine (is_nil ea _).mono ?_
            rintro e w6 ⟨rfl, rfl⟩
            go_wp2
            refine bodyPost_ret (v := sv (r, s, (k : Int), true)) (by simp [results, Tryd.results14, go_sem, d0, d1]) rfl ?_
            rw [HR.out]
            exact ⟨rfl, ((join_below LR K).setCell (by simp) _).setCell (by simp) _⟩
        · have HR : Hid (signV p q g x t zs = (0, 0, -1, false)) := by
            have e : k = zs.length := by omega
            subst e
            have := HE.out.trans HN.out
            rw [List.drop_length] at this
            exact this
          have h0 : wr.cell? ⟨w.heap.size + 1, 0, none⟩ = some (.int .i64 0) := cell_at RB 0
          have h1 : wr.cell? ⟨w.heap.size + 1, 1, none⟩ = some (.int .i64 0) := cell_at RB 1
          have k0 : wr.frozen? ⟨w.heap.size + 1, 0, none⟩ = false := frozen_at RB 0
          have k1 : wr.frozen? ⟨w.heap.size + 1, 1, none⟩ = false := frozen_at RB 1
          go_wp2
          refine bodyPost_ret (v := sv (0, 0, -1, false)) (by simp [results, Tryd.results14, go_sem, h0, h1]) rfl ?_
          rw [HR.out]
          exact ⟨rfl, (LR.setCell (by simp) _).setCell (by simp) _⟩
    · have HE : Hid (_) := signV_no (p := p) (q := q) (g := g) (x := x) (t := t) (zs := zs) (Or.inr (by omega))
      have hd2 : decide ((100 : Int) < zs.length) = true := by simp; omega
      clear hs hok hq hh I
      go_enter Tryd.func14, Tryd.ntmps14
      go_wp2_with fail
      refine (signerOf_yes p q g x t _ HS.out).mono ?_
      rintro e w3 ⟨rfl, L1⟩
      generalize hV t q = h at *
      have hB6 := heap_old (kept_new L1 b2) (gb p q g x h)
      have L2 := join_below L0 L1
      have d0 : (w3.alloc (gb p q g x h)).cell? ⟨w.heap.size + 1, 0, none⟩ = some (.int .i64 0) := cell_at hB6 0
      have d1 : (w3.alloc (gb p q g x h)).cell? ⟨w.heap.size + 1, 1, none⟩ = some (.int .i64 0) := cell_at hB6 1
      have f0 : (w3.alloc (gb p q g x h)).frozen? ⟨w.heap.size + 1, 0, none⟩ = false := frozen_at hB6 0
      have f1 : (w3.alloc (gb p q g x h)).frozen? ⟨w.heap.size + 1, 1, none⟩ = false := frozen_at hB6 1
      clear L0 b1 b2 L1 hB6
      go_wp2
      refine bodyPost_ret (v := sv (0, 0, -1, false)) (by simp [results, Tryd.results14, go_sem, d0, d1]) rfl ?_
      rw [HE.out]
      exact ⟨rfl, ((L2.alloc L2.size _).setCell (by simp) _).setCell (by simp) _⟩

end Num
end Go.Proofs.YtllmmelnkkmfoaaDoor
