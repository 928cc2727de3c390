/- slices.Values, AppendSeq, Collect and SortedFunc of controls. -/
import Derived.RangeFuncNested
import Derived.RangeFuncBound
import Derived.RangeFuncCalls
import Derived.RangeFuncBox
import Derived.RangeFuncLeaves
import Derived.Shelf.Abstract
import Derived.Shelf.RegionOpen
import Derived.WalkKit
import Derived.OwnWalkIn
import Derived.TacticsInMore
import Derived.LoopNIn
import Derived.LoopIn
import Derived.Maps.AppendAt
import Derived.Test.YtbmfhdlbbaabgaaCePick
import Derived.Test.YtbmfhdlbbaabgaaCeSortF
namespace Go.Proofs.Ytbmfhdlbbaabgaa
namespace Hn
open Go.RowKit Go.Shelf
open Pk (new_below join_below cell_at heap_new frozen_at lt_of kept own_form own_below)
set_option linter.unusedSimpArgs false
set_option linter.unusedVariables false
attribute [local go_sem] Oper.semAt_some

/-- A control's box: six cells. -/
def Bxc (W : World) (B : Nat) (p : Ct) : Prop := W.cell? ⟨B, 0, none⟩ = some (.int .i64 p.dv) ∧ W.cell? ⟨B, 1, none⟩ = some (.int .i64 p.no) ∧ W.cell? ⟨B, 2, none⟩ = some (.int .i64 p.tk) ∧ W.cell? ⟨B, 3, none⟩ = some (.int .i64 p.tr) ∧ W.cell? ⟨B, 4, none⟩ = some (.int .i64 p.dy) ∧ W.cell? ⟨B, 5, none⟩ = some (.int .i64 p.sa)

theorem bxc_new (w : World) (p : Ct) : Bxc (w.alloc (.cells #[.int .i64 p.dv, .int .i64 p.no, .int .i64 p.tk, .int .i64 p.tr, .int .i64 p.dy, .int .i64 p.sa] 37)) w.heap.size p := by
  have hm := heap_new w (.cells #[.int .i64 p.dv, .int .i64 p.no, .int .i64 p.tk, .int .i64 p.tr, .int .i64 p.dy, .int .i64 p.sa] 37)
  exact ⟨cell_at hm 0, cell_at hm 1, cell_at hm 2, cell_at hm 3, cell_at hm 4, cell_at hm 5⟩

theorem bxc_kept {W W' : World} {row : Option Nat} {B : Nat} {p : Ct} (h : Bxc W B p) (hg : W.grownBy W' row) (hrow : ∀ r, row = some r → ∃ o : Obj, W.heap[r]? = some o ∧ o.isCells = false) : Bxc W' B p := by
  obtain ⟨h0, h1, h2, h3, h4, h5⟩ := h
  exact ⟨cell_kept h0 hg hrow, cell_kept h1 hg hrow, cell_kept h2 hg hrow, cell_kept h3 hg hrow, cell_kept h4 hg hrow, cell_kept h5 hg hrow⟩

set_option maxRecDepth 100000 in
set_option maxHeartbeats 4000000 in
theorem values_stops (F : Fence) (n : Nat) (h7 : F.fn 67) (hro : F.round = none) (hn : 1 ≤ n) (Bs : Nat) (a : Option Addr) (cap : Nat) (zs : List Ct) (w w0 : World) (hz : zs.length ≤ 4194304) (hBl : Bs < w.heap.size) (hBs : w.cell? ⟨Bs, 0, none⟩ = some (.slice a zs.length cap)) (I : Controls w a zs) (L0 : Below w.heap.size w w0) :
    SeqStopsK F n Try.prog 67 #[.pointer (some ⟨Bs, 0, none⟩)] (fun x : Ct => #[lgV x]) (Below w.heap.size) (fun ys => ys = zs) (fun pre => pre <+: zs) zs.length w0 := by
  intro l J Jx W hW hJ _ hY h0
  have LW : Below w.heap.size w W := L0.trans (hW.mono L0.size)
  have hcs := (LW.cell (p := ⟨Bs, 0, none⟩) hBl).trans hBs
  have HJ : Hid (AbidesFrom W.heap.size J) := hJ
  clear hJ hW L0 hBs
  show CallsIn F n Try.prog 67 #[.func (.yield l) #[] #[], .pointer (some ⟨Bs, 0, none⟩)] W _
  refine callsIn_of_wp Try.func67 rfl h7 ?_ hro
  simp only [Try.ntmps67, List.size_toArray, List.length_cons, List.length_nil, Nat.reduceAdd, Nat.reduceSub, Array.replicate_succ, Array.replicate_zero, List.push_toArray, List.append_toArray, List.nil_append, List.cons_append]
  gi_wp2
  gi_loopw [4, 7, 9, 10, 11, 12, 13, 14, 15] (fun _ i _ _ _ _ _ _ _ wr => ∃ k : Nat, k ≤ zs.length ∧ i = .int .i64 k ∧ J (zs.take k) wr ∧ Below w.heap.size W wr) (fun _ i _ _ _ _ _ _ _ _ => zs.length - (intOf i).toNat)
  case atStart => exact ⟨0, Nat.zero_le _, rfl, h0, Below.refl _ _⟩
  case round =>
    obtain ⟨k, hk, rfl, hJs, hnx⟩ := hrel
    by_cases hlt : k < zs.length
    · obtain ⟨b, u, rfl, hltb, hc0, hc1, hc2, hc3, hc4, hc5⟩ := (I.on (LW.trans hnx)).at k hlt
      have HT : Hid (zs.take (k + 1) = zs.take k ++ [zs[k]]) := by simp [Hid]
      generalize zs[k] = p at *
      have HN := (Below.refl w.heap.size wr).alloc (Nat.le_trans LW.size hnx.size) (.cells #[.int .i64 p.dv, .int .i64 p.no, .int .i64 p.tk, .int .i64 p.tr, .int .i64 p.dy, .int .i64 p.sa] 37)
      obtain ⟨fn, tmps, assign, body, hy, hR⟩ := hY _ p (wr.alloc (.cells #[.int .i64 p.dv, .int .i64 p.no, .int .i64 p.tk, .int .i64 p.tr, .int .i64 p.dy, .int .i64 p.sa] 37)) (HJ.out _ _ _ none hJs (World.grownBy_alloc _ _ _) (fun r e => by cases e)) (by simp; omega)
      gi_wp2
      refine hR.mono ?_
      rintro e W3 (⟨rfl, hJ3, hk3⟩ | ⟨rfl, hJx3⟩)
      · gi_wp2
        go_roundw
        case rel => exact ⟨k + 1, by omega, by simp, by rw [HT.out]; exact hJ3, hnx.trans (HN.trans hk3)⟩
        case measure => simp [intOf]; omega
      · gi_wp2
        refine bodyPost_ret (results_none rfl _ _ _) rfl ?_
        exact ⟨⟨_, rfl⟩, .inr ⟨_, by rw [← HT.out]; exact List.take_prefix _ _, hJx3⟩⟩
    · obtain rfl : k = zs.length := by omega
      rw [List.take_length] at hJs
      gi_wp2
      go_end0
      exact ⟨⟨_, rfl⟩, .inl ⟨_, rfl, hJs⟩⟩

set_option maxHeartbeats 4000000 in
theorem values_val (a : Option Addr) (n cap : Nat) (w : World) :
    Calls Try.prog 56 #[.slice a n cap] w fun e w' => e = .returned (.func (.func 67) #[] #[.pointer (some ⟨w.heap.size, 0, none⟩)]) ∧ w' = w.alloc (.cells #[.slice a n cap] 25) := by
  go_enter Try.func56, Try.ntmps56
  go_wp2
  go_ret
  exact ⟨rfl, rfl⟩

set_option maxRecDepth 100000 in
set_option maxHeartbeats 4000000 in
theorem appendSeq_in (F : Fence) (n : Nat) (h8 : F.fn 82) (h7 : F.fn 67) (hro : F.round = none) (hn : 4 ≤ n) (Bs : Nat) (a : Option Addr) (cap : Nat) (zs : List Ct) (w : World) (hz : zs.length ≤ 4194304) (hBl : Bs < w.heap.size) (hBs : w.cell? ⟨Bs, 0, none⟩ = some (.slice a zs.length cap)) (I : Controls w a zs) :
    CallsIn F n Try.prog 82 #[.slice none 0 0, .func (.func 67) #[] #[.pointer (some ⟨Bs, 0, none⟩)]] w fun e W' => ∃ v, e = .returned v ∧ W'.ownsRow w.heap.size 37 6 v zs.length (ccells zs) ∧ Below w.heap.size w W' := by
  have h1 : 1 ≤ n := by omega
  obtain ⟨i0, hi, hy0, hy1, hy2⟩ := info_parts info_control
  have HV : Hid (∀ w0 : World, Below w.heap.size w w0 → _) := fun w0 L0 => values_stops F (n - 1) h7 hro (by omega) Bs a cap zs w w0 hz hBl hBs I L0
  refine callsIn_of_wp_marks Try.func82 rfl h8 ?_ hro
  simp only [Try.ntmps82, List.size_toArray, List.length_cons, List.length_nil, Nat.reduceAdd, Nat.reduceSub, Array.replicate_succ, Array.replicate_zero, List.push_toArray, List.append_toArray, List.nil_append, List.cons_append]
  gi_wp2
  have bO := Boxed.new w 25 (.slice none 0 0)
  have hB0 : Below w.heap.size w (w.alloc (.cells #[.slice none 0 0] 25)) := (Below.refl _ w).alloc (Nat.le_refl _) _
  have hsz : (w.alloc (.cells #[.slice none 0 0] 25)).heap.size = w.heap.size + 1 := by simp
  obtain ⟨W0, hW0⟩ : ∃ W0, w.alloc (.cells #[.slice none 0 0] 25) = W0 := ⟨_, rfl⟩
  rw [hW0] at bO hB0 hsz ⊢
  clear hW0
  refine wpIn_rangeFunc_ownH hro h1 (gf := 67) (lb := #[.pointer (some ⟨Bs, 0, none⟩)]) rfl h7 (enters_of Try.func67 (by kernel_rfl) rfl)
    (HV.out W0 hB0) belowK_t (belowK_b (by omega)) (Below.refl _ _) (fun _ => rfl)
    (fun pre W => (∃ v, Boxed W w.heap.size 25 v ∧ W.ownsRow w.heap.size 37 6 v pre.length (ccells pre) ∧ True) ∧ Below w.heap.size w W)
    (fun _ _ _ => False)
    (OwnFrom.and (Own.from (holdsRow_own w.heap.size w.heap.size 25 37 6 (fun pre => pre.length) (fun pre => ccells pre) (fun _ _ => True)) _) (ownFrom_below (Nat.le_refl _) (by omega)))
    (fun _ _ _ _ _ hs _ _ => hs)
    ⟨⟨_, bO, World.ownsRow_nil _ _ _ _, trivial⟩, hB0⟩
    (fun x a' W => ∃ Bx, Bxc W Bx x ∧ a' = { tmps := #[.slice none 0 0, .func (.func 67) #[] #[.pointer (some ⟨Bs, 0, none⟩)], .pointer (some ⟨w.heap.size, 0, none⟩), undef, .slice none 0 0, .pointer (some ⟨Bx, 0, none⟩), .func (.func 67) #[] #[.pointer (some ⟨Bs, 0, none⟩)], lgV x, undef, undef, undef, undef, undef], defers := [] })
    (fun x a' _ X Y row hs hg hr => by obtain ⟨Bx, h2, h3⟩ := hs; exact ⟨Bx, bxc_kept h2 hg (fun r e => (hr r e).2), h3⟩)
    ?assign ?body ?done ?stop
  case assign =>
    rintro l pre x W K ⟨⟨v, hv, hrow, -⟩, hB⟩ hK
    gi_wp2
    exact hK _ _ ((KeepsOthers.alloc _ _).from _) ((Below.refl _ W).alloc hB.size _) ⟨⟨v, hv.alloc _, hrow.alloc _, trivial⟩, hB.alloc hB.size _⟩ ⟨W.heap.size, bxc_new W x, rfl⟩
  case body =>
    rintro l pre x a' W hl - ⟨⟨v, hv, hrow, -⟩, hB⟩ ⟨Bx, ⟨c0, c1, c2, c3, c4, c5⟩, rfl⟩ hlt
    have hc := hv.cell
    have hml : 4194304 + 1 ≤ maxLen := by unfold maxLen; omega
    gi_wp2_with (gi_at_builtin; refine wpListIn_append_own _ rfl _ _ 25 rfl w.heap.size 37 i0 (lgV ⟨0, 0, 0, 0, 0, 0⟩) 6 48 Try.underlying25 hi hy0 hy1 hy2 rfl (by decide) _ _ _ rfl (hrow.alloc _) ⟨W.heap.size, 0, none⟩ 1 1 (cc1 x) rfl rfl six_at (cc1_one x) (by omega) (by omega) (by have := hB.size; simp; omega) ?_; intro v' w1 hown' hgrow _; obtain ⟨g', cap', rfl⟩ := ownsRow_succ hown'; obtain ⟨hv1, hv2, hr2, hk2, hb2⟩ := hv.appended (by decide) hrow hB.size (Nat.le_refl _) hown' hgrow; have hc1 := hv1.cell; have hf1 := hv1.frozen)
    exact ⟨hk2.from _, hb2, ⟨_, hv2, by rw [← ccells_snoc]; simpa using hr2, trivial⟩, hB.trans hb2⟩
  case done =>
    rintro D ys W hD rfl ⟨⟨v, hv, hrow, -⟩, hB⟩ hK
    have hc := hv.cell
    obtain ⟨va, vc, rfl, -⟩ := own_form hrow
    gi_wp2
    refine ⟨by simp, .inl ⟨_, _, rfl, run_takeDeferred hK, ?_⟩⟩
    exact ⟨_, results_tmp rfl _ _ _, _, rfl, ownsRow_putObj hrow _ hK rfl, hB.trans (belowK_b (w := w) (Nat.le_refl _) W D _ _ (by omega) hK rfl rfl)⟩
  case stop =>
    rintro D c pre W _ _ h _
    exact h.elim

set_option maxHeartbeats 4000000 in
theorem collect_val (Bs : Nat) (a : Option Addr) (cap : Nat) (zs : List Ct) (w : World) (hz : zs.length ≤ 4194304) (hBl : Bs < w.heap.size) (hBs : w.cell? ⟨Bs, 0, none⟩ = some (.slice a zs.length cap)) (I : Controls w a zs) :
    Calls Try.prog 65 #[.func (.func 67) #[] #[.pointer (some ⟨Bs, 0, none⟩)]] w fun e W' => ∃ v, e = .returned v ∧ W'.ownsRow w.heap.size 37 6 v zs.length (ccells zs) ∧ Below w.heap.size w W' := by
  have HA : Hid (Calls Try.prog 82 _ _ _) := callsIn_wide.1 (appendSeq_in Fence.wide 9 trivial trivial rfl (by omega) Bs a cap zs w hz hBl hBs I)
  go_enter Try.func65, Try.ntmps65
  go_wp2_with fail
  refine HA.out.mono ?_
  rintro e w1 ⟨v, rfl, O1, L1⟩
  obtain ⟨va, vc, rfl, -⟩ := own_form O1
  go_wp2_with fail
  go_ret
  exact ⟨_, rfl, O1, L1⟩

set_option maxHeartbeats 4000000 in
theorem sortedC_val (Bs : Nat) (a : Option Addr) (cap : Nat) (zs : List Ct) (w : World) (hz : zs.length ≤ 4194304) (hBl : Bs < w.heap.size) (hBs : w.cell? ⟨Bs, 0, none⟩ = some (.slice a zs.length cap)) (I : Controls w a zs) :
    Calls Try.prog 55 #[.func (.func 67) #[] #[.pointer (some ⟨Bs, 0, none⟩)], .func (.func 57) #[] #[]] w fun e W' => ∃ v, e = .returned v ∧ ∃ D : List Ct, D.Perm zs ∧ Srt D ∧ W'.ownsRow w.heap.size 37 6 v D.length (ccells D) ∧ Below w.heap.size w W' := by
  go_enter Try.func55, Try.ntmps55
  go_wp2_with fail
  refine (collect_val Bs a cap zs w hz hBl hBs I).mono ?_
  rintro e w1 ⟨v, rfl, O1, L1⟩
  obtain ⟨va, vc, rfl, -⟩ := own_form O1
  go_wp2_with fail
  refine (sortC_own w.heap.size zs _ w1 hz O1).mono ?_
  rintro e w2 ⟨rfl, D, hp, hs, O2, L2⟩
  go_wp2_with fail
  go_ret
  exact ⟨_, rfl, D, hp, hs, by rw [hp.length_eq]; exact O2, L1.trans L2⟩

end Hn
end Go.Proofs.Ytbmfhdlbbaabgaa
