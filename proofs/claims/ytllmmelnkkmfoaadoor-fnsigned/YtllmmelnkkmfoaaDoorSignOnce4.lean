/- Contract of the program's SignOnce. -/
import Derived.Test.YtllmmelnkkmfoaaDoorSignOnce3
namespace Go.Proofs.YtllmmelnkkmfoaaDoor
namespace Num
open Go.ChangeShapes Go.WideShapes Go.ChangeAt Go.RowKit
set_option linter.unusedSimpArgs false
set_option linter.unusedVariables false

set_option maxHeartbeats 1000000 in
theorem implSignOnce_val (p q g x k : Int) (t : ByteArray) (w : World) (ht : t.size ≤ maxLen) (E1 : Errs.ErrAt 1 w) (E2 : Errs.ErrAt 2 w) (E3 : Errs.ErrAt 3 w) (E4 : Errs.ErrAt 0 w) :
    Calls Tryd.prog 17 #[pv p q g, .int .i64 x, .string t, .int .i64 k] w fun e w' => e = .returned (.tuple #[mv (soR p q g x t k) (soS p q g x t k), .bool (soB p q g x t k)]) ∧ Below w.heap.size w w' := by
  obtain ⟨L0, b1, b2⟩ := two w (pb p q g) (mb 0 0)
  cases hs : signB p q g x t
  · have HE : Hid (_) := so_no k hs
    have HS : Hid (signB p q g x t = false) := hs
    clear hs
    go_enter Tryd.func17, Tryd.ntmps17
    go_wp2_with fail
    refine (signerOf_no p q g x t _ ht HS.out (E1.on L0) (E2.on L0) (E3.on L0)).mono ?_
    rintro e w3 ⟨⟨a, rfl⟩, L1⟩
    have hB := kept_new L1 b2
    have hB6 := heap_old hB (gb 0 0 0 0 0)
    have L2 := join_below L0 L1
    have d0 : (w3.alloc (gb 0 0 0 0 0)).cell? ⟨w.heap.size + 1, 0, none⟩ = some (.int .i64 0) := cell_at hB6 0
    have d1 : (w3.alloc (gb 0 0 0 0 0)).cell? ⟨w.heap.size + 1, 1, none⟩ = some (.int .i64 0) := cell_at hB6 1
    have f0 : (w3.alloc (gb 0 0 0 0 0)).frozen? ⟨w.heap.size + 1, 0, none⟩ = false := frozen_at hB6 0
    have f1 : (w3.alloc (gb 0 0 0 0 0)).frozen? ⟨w.heap.size + 1, 1, none⟩ = false := frozen_at hB6 1
    clear L0 b1 b2 L1 hB hB6
    go_wp2
    refine bodyPost_ret (v := .tuple #[mv 0 0, .bool false]) (by simp [results, Tryd.results17, go_sem, d0, d1]) rfl ?_
    rw [HE.out.1, HE.out.2.1, HE.out.2.2]
    exact ⟨rfl, ((L2.alloc L2.size _).setCell (by simp) _).setCell (by simp) _⟩
  · have HE : Hid (_) := so_yes k hs
    have HS : Hid (signB p q g x t = true) := hs
    obtain ⟨hok, hx, h5⟩ := signB_facts hs
    obtain ⟨-, hq, -⟩ := okP_facts hok
    have hh := hV_bd t hq
    have HOK : Hid (okP p q g = true) := hok
    have HH : Hid (0 ≤ hV t q ∧ hV t q < q) := hh
    clear hs hok hq hh
    go_enter Tryd.func17, Tryd.ntmps17
    go_wp2_with fail
    refine (signerOf_yes p q g x t _ HS.out).mono ?_
    rintro e w3 ⟨rfl, L1⟩
    generalize hV t q = h at *
    have L2 := join_below L0 L1
    have L3 := join_below L2 (new_below w3 (gb p q g x h))
    obtain ⟨a, ha⟩ := err_cell (E4.on L3)
    have hB6 := heap_old (kept_new L1 b2) (gb p q g x h)
    clear L0 b1 b2 L1
    go_wp2_with fail
    refine (markBy_val p q g x h k _ HOK.out hx HH.out a ha (err_lt ha)).mono ?_
    rintro e w4 ⟨rfl, L4⟩
    have hB7 := kept_new L4 hB6
    have L5 := join_below L3 L4
    generalize onceR p q g x h k = r at *
    generalize onceS p q g x h k = s at *
    have hB8 := heap_old hB7 (mb r s)
    have d0 : (w4.alloc (mb r s)).cell? ⟨w.heap.size + 1, 0, none⟩ = some (.int .i64 0) := cell_at hB8 0
    have d1 : (w4.alloc (mb r s)).cell? ⟨w.heap.size + 1, 1, none⟩ = some (.int .i64 0) := cell_at hB8 1
    have f0 : (w4.alloc (mb r s)).frozen? ⟨w.heap.size + 1, 0, none⟩ = false := frozen_at hB8 0
    have f1 : (w4.alloc (mb r s)).frozen? ⟨w.heap.size + 1, 1, none⟩ = false := frozen_at hB8 1
    clear hB6 hB7 hB8 L3 L4 L2
    cases hd : doV p q g x h k
    · have HD : Hid (doV p q g x h k = false) := hd
      clear hd
      dsimp only [errV]
      go_wp2
      go_region
      all_goals
        go_wp2
        refine bodyPost_ret (v := .tuple #[mv r s, .bool false]) (by simp [results, Tryd.results17, go_sem, d0, d1]) rfl ?_
        rw [HE.out.1, HE.out.2.1, HE.out.2.2, HD.out]
        exact ⟨rfl, ((L5.alloc L5.size _).drew.setCell (by simp) _).setCell (by simp) _⟩
    · have HD : Hid (doV p q g x h k = true) := hd
      clear hd
      dsimp only [errV]
      go_wp2
      go_region
      all_goals
        go_wp2
        refine bodyPost_ret (v := .tuple #[mv r s, .bool true]) (by simp [results, Tryd.results17, go_sem, d0, d1]) rfl ?_
        rw [HE.out.1, HE.out.2.1, HE.out.2.2, HD.out]
        exact ⟨rfl, ((L5.alloc L5.size _).drew.setCell (by simp) _).setCell (by simp) _⟩

end Num
end Go.Proofs.YtllmmelnkkmfoaaDoor
