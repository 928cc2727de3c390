/- How many stops stand free beside a seat, of the program and of the model. -/
import Derived.Test.YtiollklighmojadSeCount
namespace Go.Proofs.Ytiollklighmojad
namespace Se
open Go.ChangeShapes Go.WideShapes Go.ChangeAt Go.RowKit
open Tn (Hd St trV trB Stops runsB okB)
open Pk (new_below join_below cell_at heap_new frozen_at lt_of kept heap_old Drawn info_of own_form own_below Room)
set_option linter.unusedSimpArgs false
set_option linter.unusedVariables false

def fr (h : Hl) (a : Int) (x : Hl) : Int := if x.be ≤ h.ba then (if a < x.be then x.be else a) else a
def tt (h : Hl) (a : Int) (x : Hl) : Int := if h.be ≤ x.ba then (if x.ba < a then x.ba else a) else a

/-- How many stops stand free beside a hold, of n stops. -/
def gapV (l : List Hl) (n : Nat) (h : Hl) : Int := h.ba - (grp l (key h)).foldl (fr h) 0 + (grp l (key h)).foldl (tt h) ((n : Int) - 1) - h.be

theorem fr_yes {h x : Hl} {a : Int} (e : x.be ≤ h.ba) : fr h a x = (if a < x.be then x.be else a) := if_pos e
theorem fr_no {h x : Hl} {a : Int} (e : ¬ x.be ≤ h.ba) : fr h a x = a := if_neg e
theorem tt_yes {h x : Hl} {a : Int} (e : h.be ≤ x.ba) : tt h a x = (if x.ba < a then x.ba else a) := if_pos e
theorem tt_no {h x : Hl} {a : Int} (e : ¬ h.be ≤ x.ba) : tt h a x = a := if_neg e

theorem fold_next (f : Int → Hl → Int) (a : Int) (s : List Hl) (k : Nat) (h : k < s.length) : (s.take (k + 1)).foldl f a = f ((s.take k).foldl f a) s[k] := by
  rw [List.take_succ_eq_append_getElem h, List.foldl_append]
  rfl

theorem grp_next (l : List Hl) (k : Nat) (h : k < l.length) (q : Ky) : grp (l.take (k + 1)) q = if key l[k] = q then grp (l.take k) q ++ [l[k]] else grp (l.take k) q := by
  unfold grp
  rw [List.take_succ_eq_append_getElem h, List.filter_append]
  by_cases e : key l[k] = q
  · rw [if_pos e]
    simp [e]
  · rw [if_neg e]
    simp [e]

set_option maxRecDepth 100000 in
set_option maxHeartbeats 4000000 in
theorem slack_val (B b : Nat) (es : Array MapEntry) (clock : Nat) (l : List Hl) (h : Hl) (n : Nat) (w : World) (hk : Wf h) (hl : l.length ≤ maxLen) (h0 : 0 ≤ h.ba) (h1 : h.ba < h.be) (h2 : h.be < (n : Int)) (h3 : n ≤ 20) (M : Mp B b (grp l) es clock w) :
    Calls Try.prog 98 #[.map (some b), lgV h, .int .i64 n] w fun e w' => e = .returned (.int .i64 (gapV l n h)) ∧ Below w.heap.size w w' := by
  obtain ⟨v0, hl0, O0, -⟩ := M.look (key h) hk.key
  obtain ⟨va, vc, rfl, I0⟩ := own_holds O0
  have hgl : (grp l (key h)).length ≤ 9223372036854775807 := by
    have h4 := grp_le l (key h)
    unfold maxLen at hl
    omega
  have HV : Hid (∀ f t : Int, f = (grp l (key h)).foldl (fr h) 0 → t = (grp l (key h)).foldl (tt h) ((n : Int) - 1) → gapV l n h = h.ba - f + t - h.be) := by
    intro f t e1 e2
    rw [e1, e2]
    rfl
  have N := new_below w (.cells #[.int .i64 h.tr, .int .i64 h.dy, .int .i64 h.co, .int .i64 h.se, .int .i64 h.ba, .int .i64 h.be, .int .i64 h.od] 77)
  have HB : Hid (Bx (w.alloc (.cells #[.int .i64 h.tr, .int .i64 h.dy, .int .i64 h.co, .int .i64 h.se, .int .i64 h.ba, .int .i64 h.be, .int .i64 h.od] 77)) w.heap.size h) := Bx.of (heap_new _ _)
  have hb0 : w.heap.size < (w.alloc (.cells #[.int .i64 h.tr, .int .i64 h.dy, .int .i64 h.co, .int .i64 h.se, .int .i64 h.ba, .int .i64 h.be, .int .i64 h.od] 77)).heap.size := by simp
  have HK : Hid (∀ w, _) := fun w => key_val h w
  have HL : Hid (∀ w1, Below w.heap.size w w1 → (Instr.lookup 135 (.map (some b)) (.agg #[.int .i64 h.tr, .int .i64 h.dy, .int .i64 h.co, .int .i64 h.se]) false).run Try.prog w1 = .ok _ w1) := fun w1 L => hl0 w1 (kept L (lt_of M.blk) M.blk)
  clear hl0 O0 M hl
  generalize grp l (key h) = s at *
  generalize gapV l n h = R at *
  go_enter Try.func98, Try.ntmps98
  go_wp2_with fail
  refine (HK.out _).mono ?_
  generalize w.alloc (.cells #[.int .i64 h.tr, .int .i64 h.dy, .int .i64 h.co, .int .i64 h.se, .int .i64 h.ba, .int .i64 h.be, .int .i64 h.od] 77) = W at *
  rintro e w1 ⟨rfl, L1⟩
  have L2 := join_below N L1
  have hlk := HL.out w1 L2
  have HB1 : Hid (Bx w1 w.heap.size h) := HB.out.on L1 hb0
  have hb1 := Nat.lt_of_lt_of_le hb0 L1.size
  have I1 := I0.on L2
  clear HB N L1 HL HK I0 hb0
  go_wp2
  go_loopw [7, 8, 18] (fun f t i wr => ∃ (k : Nat) (x y : Int), k ≤ s.length ∧ f = .int .i64 x ∧ t = .int .i64 y ∧ i = .int .i64 k ∧ Below w1.heap.size w1 wr ∧ 0 ≤ x ∧ x ≤ h.ba ∧ h.be ≤ y ∧ y ≤ (n : Int) - 1 ∧ Hid (x = (s.take k).foldl (fr h) 0) ∧ Hid (y = (s.take k).foldl (tt h) ((n : Int) - 1))) (fun _ _ i _ => s.length - (intOf i).toNat)
  case atStart => exact ⟨0, 0, (n : Int) - 1, by omega, rfl, by go_num, rfl, Below.refl _ _, by omega, by omega, by omega, by omega, rfl, rfl⟩
  case round =>
    obtain ⟨k, f, t, hkk, rfl, rfl, rfl, L, f0, f1, t0, t1, HF, HT⟩ := hrel
    obtain ⟨y0, y1, y2, y3, y4, y5, y6⟩ := HB1.out.on L hb1
    by_cases hkn : k < s.length
    · obtain ⟨g, o, rfl, hlt, c0, c1, c2, c3, c4, c5, c6⟩ := (I1.on L).at k hkn
      have HF2 : Hid (_) := (fold_next (fr h) 0 s k hkn)
      have HT2 : Hid (_) := (fold_next (tt h) ((n : Int) - 1) s k hkn)
      rw [← HF.out] at HF2
      rw [← HT.out] at HT2
      generalize s[k] = x at *
      clear HF HT y0 y1 y2 y3 y4 y5 y6
      have N4 := new_below wr (.cells #[.int .i64 x.tr, .int .i64 x.dy, .int .i64 x.co, .int .i64 x.se, .int .i64 x.ba, .int .i64 x.be, .int .i64 x.od] 77)
      have L4 := join_below L N4
      obtain ⟨y0, y1, y2, y3, y4, y5, y6⟩ := HB1.out.on L4 hb1
      by_cases e1 : x.be ≤ h.ba
      · by_cases e2 : h.be ≤ x.ba
        · have d1 : decide (x.be ≤ h.ba) = true := decide_eq_true e1
          have d2 : decide (h.be ≤ x.ba) = true := decide_eq_true e2
          have HF3 : Hid ((if f < x.be then x.be else f) = _) := (fr_yes e1).symm.trans HF2.out.symm
          have HT3 : Hid ((if x.ba < t then x.ba else t) = _) := (tt_yes e2).symm.trans HT2.out.symm
          have m1 : 0 ≤ (if f < x.be then x.be else f) ∧ (if f < x.be then x.be else f) ≤ h.ba := by split <;> omega
          have m2 : h.be ≤ (if x.ba < t then x.ba else t) ∧ (if x.ba < t then x.ba else t) ≤ (n : Int) - 1 := by split <;> omega
          clear HF2 HT2 e1 e2
          go_wp2
          go_roundw
          case rel => exact ⟨k + 1, (if f < x.be then x.be else f), (if x.ba < t then x.ba else t), by omega, rfl, rfl, by go_num, L4, m1.1, m1.2, m2.1, m2.2, HF3, HT3⟩
          case measure => simp [intOf]; omega
        · have d1 : decide (x.be ≤ h.ba) = true := decide_eq_true e1
          have d2 : decide (h.be ≤ x.ba) = false := decide_eq_false e2
          have HF3 : Hid ((if f < x.be then x.be else f) = _) := (fr_yes e1).symm.trans HF2.out.symm
          have HT3 : Hid (t = _) := (tt_no e2).symm.trans HT2.out.symm
          have m1 : 0 ≤ (if f < x.be then x.be else f) ∧ (if f < x.be then x.be else f) ≤ h.ba := by split <;> omega
          clear HF2 HT2 e1 e2
          go_wp2
          go_roundw
          case rel => exact ⟨k + 1, (if f < x.be then x.be else f), t, by omega, rfl, rfl, by go_num, L4, m1.1, m1.2, t0, t1, HF3, HT3⟩
          case measure => simp [intOf]; omega
      · by_cases e2 : h.be ≤ x.ba
        · have d1 : decide (x.be ≤ h.ba) = false := decide_eq_false e1
          have d2 : decide (h.be ≤ x.ba) = true := decide_eq_true e2
          have HF3 : Hid (f = _) := (fr_no e1).symm.trans HF2.out.symm
          have HT3 : Hid ((if x.ba < t then x.ba else t) = _) := (tt_yes e2).symm.trans HT2.out.symm
          have m2 : h.be ≤ (if x.ba < t then x.ba else t) ∧ (if x.ba < t then x.ba else t) ≤ (n : Int) - 1 := by split <;> omega
          clear HF2 HT2 e1 e2
          go_wp2
          go_roundw
          case rel => exact ⟨k + 1, f, (if x.ba < t then x.ba else t), by omega, rfl, rfl, by go_num, L4, f0, f1, m2.1, m2.2, HF3, HT3⟩
          case measure => simp [intOf]; omega
        · have d1 : decide (x.be ≤ h.ba) = false := decide_eq_false e1
          have d2 : decide (h.be ≤ x.ba) = false := decide_eq_false e2
          have HF3 : Hid (f = _) := (fr_no e1).symm.trans HF2.out.symm
          have HT3 : Hid (t = _) := (tt_no e2).symm.trans HT2.out.symm
          clear HF2 HT2 e1 e2
          go_wp2
          go_roundw
          case rel => exact ⟨k + 1, f, t, by omega, rfl, rfl, by go_num, L4, f0, f1, t0, t1, HF3, HT3⟩
          case measure => simp [intOf]; omega
    · obtain rfl : k = s.length := by omega
      have HE : Hid (_) := HV.out f t (by rw [HF.out, List.take_length]) (by rw [HT.out, List.take_length])
      clear HF HT
      go_wp2
      go_ret
      exact ⟨by rw [HE.out] <;> rfl, join_below L2 L⟩

set_option maxRecDepth 100000 in
set_option maxHeartbeats 8000000 in
theorem specGap_val (la : Option Addr) (l : List Hl) (lc : Nat) (t : Hd) (ta : Option Addr) (ls : List St) (tc : Nat) (h : Hl) (w : World) (hl : l.length ≤ maxLen) (h0 : 0 ≤ h.ba) (h1 : h.ba < h.be) (h2 : h.be < (ls.length : Int)) (h3 : ls.length ≤ 20) (I : Holds w la l) :
    Calls Try.prog 101 #[.slice la l.length lc, trV t ta ls.length tc, lgV h] w fun e w' => e = .returned (.int .i64 (gapV l ls.length h)) ∧ Below w.heap.size w w' := by
  unfold maxLen at hl
  have HV : Hid (∀ x y : Int, x = (grp l (key h)).foldl (fr h) 0 → y = (grp l (key h)).foldl (tt h) ((ls.length : Int) - 1) → gapV l ls.length h = h.ba - x + y - h.be) := by
    intro x y e1 e2
    rw [e1, e2]
    rfl
  have N1 := new_below w (trB t ta ls.length tc 26)
  have N := join_below N1 (new_below (w.alloc (trB t ta ls.length tc 26)) (.cells #[.int .i64 h.tr, .int .i64 h.dy, .int .i64 h.co, .int .i64 h.se, .int .i64 h.ba, .int .i64 h.be, .int .i64 h.od] 77))
  have hs1 : (w.alloc (trB t ta ls.length tc 26)).heap.size = w.heap.size + 1 := Array.size_push ..
  have hs2 : ((w.alloc (trB t ta ls.length tc 26)).alloc (.cells #[.int .i64 h.tr, .int .i64 h.dy, .int .i64 h.co, .int .i64 h.se, .int .i64 h.ba, .int .i64 h.be, .int .i64 h.od] 77)).heap.size = w.heap.size + 2 := by
    have : ((w.alloc (trB t ta ls.length tc 26)).alloc (.cells #[.int .i64 h.tr, .int .i64 h.dy, .int .i64 h.co, .int .i64 h.se, .int .i64 h.ba, .int .i64 h.be, .int .i64 h.od] 77)).heap.size = (w.alloc (trB t ta ls.length tc 26)).heap.size + 1 := Array.size_push ..
    omega
  have HB : Hid (Bx ((w.alloc (trB t ta ls.length tc 26)).alloc (.cells #[.int .i64 h.tr, .int .i64 h.dy, .int .i64 h.co, .int .i64 h.se, .int .i64 h.ba, .int .i64 h.be, .int .i64 h.od] 77)) (w.heap.size + 1) h) := by
    have h4 := Bx.of (p := h) (heap_new (w.alloc (trB t ta ls.length tc 26)) (.cells #[.int .i64 h.tr, .int .i64 h.dy, .int .i64 h.co, .int .i64 h.se, .int .i64 h.ba, .int .i64 h.be, .int .i64 h.od] 77))
    rw [hs1] at h4
    exact h4
  have HT0 : Tbx ((w.alloc (trB t ta ls.length tc 26)).alloc (.cells #[.int .i64 h.tr, .int .i64 h.dy, .int .i64 h.co, .int .i64 h.se, .int .i64 h.ba, .int .i64 h.be, .int .i64 h.od] 77)) w.heap.size t ta ls.length tc := Tbx.of (heap_old (heap_new _ _) _)
  have HZ : Hid (_) := hs2
  clear hs1 hs2 N1
  generalize gapV l ls.length h = R at *
  go_enter Try.func101, Try.ntmps101
  go_wp2
  generalize (w.alloc (trB t ta ls.length tc 26)).alloc (.cells #[.int .i64 h.tr, .int .i64 h.dy, .int .i64 h.co, .int .i64 h.se, .int .i64 h.ba, .int .i64 h.be, .int .i64 h.od] 77) = W at *
  obtain ⟨c, hc0⟩ : ∃ c, w.heap.size + 1 = c := ⟨_, rfl⟩
  rw [hc0] at HB ⊢
  have hcW : c < W.heap.size := by have := HZ.out; omega
  clear hc0 HZ
  obtain ⟨m, hm⟩ : ∃ m : Int, (ls.length : Int) - 1 = m := ⟨_, rfl⟩
  have HM : Hid ((ls.length : Int) - 1 = m) := hm
  have hw1 : wrap64 ((ls.length : Int) - 1) = m := by rw [hm]; unfold wrap64; omega
  have hw2 : IntKind.i64.wrap ((ls.length : Int) - 1) = m := by rw [hm, IntKind.wrap_i64]; omega
  clear hm
  refine wp_region_held_drew (S := (fun w' => Tbx w' w.heap.size t ta ls.length tc)) (by kernel_rfl) ?_ (fun hHeld => ?_)
  · exact HT0
  refine wpAnyH_take (i := 0) (v := .pointer (some ⟨w.heap.size, 4, none⟩)) rfl (by kernel_rfl) (by kernel_rfl) (by kernel_rfl) (fun _ _ _ h => h) (Or.inl ⟨by kernel_rfl, fun w hSw => by first | (go_simp; done) | (dsimp only at hSw; obtain ⟨x0, x1, x2, x3, x4⟩ := hSw; go_simp; done) | rfl⟩) (by assumption) ?_
  simp only [Act.put, List.getElem_toArray, List.getElem_cons_succ, List.getElem_cons_zero, List.setIfInBounds_toArray, List.set_cons_succ, List.set_cons_zero]
  refine wpAnyH_take (i := 1) (v := .slice ta ls.length tc) rfl (by kernel_rfl) (by kernel_rfl) (by kernel_rfl) (fun _ _ _ h => h) (Or.inl ⟨by kernel_rfl, fun w hSw => by first | (go_simp; done) | (dsimp only at hSw; obtain ⟨x0, x1, x2, x3, x4⟩ := hSw; go_simp; done) | rfl⟩) (by assumption) ?_
  simp only [Act.put, List.getElem_toArray, List.getElem_cons_succ, List.getElem_cons_zero, List.setIfInBounds_toArray, List.set_cons_succ, List.set_cons_zero]
  refine wpAnyH_take (i := 2) (v := .int .i64 (ls.length : Int)) rfl (by kernel_rfl) (by kernel_rfl) (by kernel_rfl) (fun _ _ _ h => h) (Or.inl ⟨by kernel_rfl, fun w hSw => by first | (go_simp; done) | (dsimp only at hSw; obtain ⟨x0, x1, x2, x3, x4⟩ := hSw; go_simp; done) | rfl⟩) (by assumption) ?_
  simp only [Act.put, List.getElem_toArray, List.getElem_cons_succ, List.getElem_cons_zero, List.setIfInBounds_toArray, List.set_cons_succ, List.set_cons_zero]
  refine wpAnyH_take (i := 3) (v := .int .i64 m) rfl (by kernel_rfl) (by kernel_rfl) (by kernel_rfl) (fun _ _ _ h => h) (Or.inl ⟨by kernel_rfl, fun w hSw => by first | (go_simp; done) | (dsimp only at hSw; obtain ⟨x0, x1, x2, x3, x4⟩ := hSw; go_simp; done) | rfl⟩) (by assumption) ?_
  simp only [Act.put, List.getElem_toArray, List.getElem_cons_succ, List.getElem_cons_zero, List.setIfInBounds_toArray, List.set_cons_succ, List.set_cons_zero]
  refine wpAnyH_take (i := 4) (v := .int .i64 0) rfl (by kernel_rfl) (by kernel_rfl) (by kernel_rfl) (fun _ _ _ h => h) (Or.inl ⟨by kernel_rfl, fun w hSw => by first | (go_simp; done) | (dsimp only at hSw; obtain ⟨x0, x1, x2, x3, x4⟩ := hSw; go_simp; done) | rfl⟩) (by assumption) ?_
  simp only [Act.put, List.getElem_toArray, List.getElem_cons_succ, List.getElem_cons_zero, List.setIfInBounds_toArray, List.set_cons_succ, List.set_cons_zero]
  refine wpAnyH_take (i := 5) (v := .int .i64 m) rfl (by kernel_rfl) (by kernel_rfl) (by kernel_rfl) (fun _ _ _ h => h) (Or.inl ⟨by kernel_rfl, fun w hSw => by first | (go_simp; done) | (dsimp only at hSw; obtain ⟨x0, x1, x2, x3, x4⟩ := hSw; go_simp; done) | rfl⟩) (by assumption) ?_
  simp only [Act.put, List.getElem_toArray, List.getElem_cons_succ, List.getElem_cons_zero, List.setIfInBounds_toArray, List.set_cons_succ, List.set_cons_zero]
  refine wpAnyH_done (by kernel_rfl) ?_ _
  clear hw1 hw2
  go_wp2
  have hcD : c < W.drew.heap.size := hcW
  have HBD : Hid (Bx W.drew c h) := HB.out
  have ND : Below w.heap.size w W.drew := N.drew
  have ID := I.on ND
  clear HB N hcW HT0 I
  generalize W.drew = W1 at *
  go_loopw [7, 8, 9] (fun f g i wr => ∃ (k : Nat) (x y : Int), k ≤ l.length ∧ f = .int .i64 x ∧ g = .int .i64 y ∧ i = .int .i64 k ∧ Below W1.heap.size W1 wr ∧ 0 ≤ x ∧ x ≤ h.ba ∧ h.be ≤ y ∧ y ≤ (ls.length : Int) - 1 ∧ Hid (x = (grp (l.take k) (key h)).foldl (fr h) 0) ∧ Hid (y = (grp (l.take k) (key h)).foldl (tt h) ((ls.length : Int) - 1))) (fun _ _ i _ => l.length - (intOf i).toNat)
  case atStart => exact ⟨0, 0, m, by omega, rfl, rfl, rfl, Below.refl _ _, by omega, by omega, by have := HM.out; omega, by have := HM.out; omega, rfl, HM.out.symm⟩
  case round =>
    obtain ⟨k, f, g, hkk, rfl, rfl, rfl, L, f0, f1, t0, t1, HF, HT⟩ := hrel
    obtain ⟨y0, y1, y2, y3, y4, y5, y6⟩ := HBD.out.on L hcD
    by_cases hkn : k < l.length
    · obtain ⟨b, o, rfl, hlt, c0, c1, c2, c3, c4, c5, c6⟩ := (ID.on L).at k hkn
      have HG : Hid (_) := grp_next l k hkn (key h)
      generalize l[k] = x at *
      clear y0 y1 y2 y3 y4 y5 y6
      have N4 := new_below wr (.cells #[.int .i64 x.tr, .int .i64 x.dy, .int .i64 x.co, .int .i64 x.se, .int .i64 x.ba, .int .i64 x.be, .int .i64 x.od] 77)
      have L4 := join_below L N4
      obtain ⟨y0, y1, y2, y3, y4, y5, y6⟩ := HBD.out.on L4 hcD
      have HN : Hid (¬ key x = key h → f = (grp (l.take (k + 1)) (key h)).foldl (fr h) 0 ∧ g = (grp (l.take (k + 1)) (key h)).foldl (tt h) ((ls.length : Int) - 1)) := by
        intro e
        rw [HG.out, if_neg e]
        exact ⟨HF.out, HT.out⟩
      have HY : Hid (key x = key h → fr h f x = (grp (l.take (k + 1)) (key h)).foldl (fr h) 0 ∧ tt h g x = (grp (l.take (k + 1)) (key h)).foldl (tt h) ((ls.length : Int) - 1)) := by
        intro e
        rw [HG.out, if_pos e, List.foldl_append, List.foldl_append, ← HF.out, ← HT.out]
        exact ⟨rfl, rfl⟩
      clear HF HT HG
      by_cases e0 : x.tr = h.tr
      · have n0 : (x.tr != h.tr) = false := by simp [e0]
        by_cases e1 : x.dy = h.dy
        · have n1 : (x.dy != h.dy) = false := by simp [e1]
          by_cases e2 : x.co = h.co
          · have n2 : (x.co != h.co) = false := by simp [e2]
            by_cases e3 : x.se = h.se
            · have n3 : (x.se != h.se) = false := by simp [e3]
              have HE : Hid (_) := HY.out (key_eq.2 ⟨e0, e1, e2, e3⟩)
              clear HN HY e0 e1 e2 e3
              by_cases p1 : x.be ≤ h.ba
              · by_cases p2 : f < x.be
                · by_cases q1 : h.be ≤ x.ba
                  · by_cases q2 : x.ba < g
                    · have HF3 : Hid (x.be = _) := (show fr h f x = x.be by rw [fr_yes p1, if_pos p2]).symm.trans HE.out.1
                      have HT3 : Hid (x.ba = _) := (show tt h g x = x.ba by rw [tt_yes q1, if_pos q2]).symm.trans HE.out.2
                      have d1 : decide (x.be ≤ h.ba) = true := decide_eq_true p1
                      have d2 : decide (f < x.be) = true := decide_eq_true p2
                      have d3 : decide (h.be ≤ x.ba) = true := decide_eq_true q1
                      have d4 : decide (x.ba < g) = true := decide_eq_true q2
                      have b0 : 0 ≤ x.be := by omega
                      have b1 : x.be ≤ h.ba := by omega
                      have b2 : h.be ≤ x.ba := by omega
                      have b3 : x.ba ≤ (ls.length : Int) - 1 := by omega
                      clear HE p1 p2 q1 q2
                      go_wp2
                      go_roundw
                      case rel => exact ⟨k + 1, x.be, x.ba, by omega, rfl, rfl, by go_num, L4, b0, b1, b2, b3, HF3, HT3⟩
                      case measure => simp [intOf]; omega
                    · have HF3 : Hid (x.be = _) := (show fr h f x = x.be by rw [fr_yes p1, if_pos p2]).symm.trans HE.out.1
                      have HT3 : Hid (g = _) := (show tt h g x = g by rw [tt_yes q1, if_neg q2]).symm.trans HE.out.2
                      have d1 : decide (x.be ≤ h.ba) = true := decide_eq_true p1
                      have d2 : decide (f < x.be) = true := decide_eq_true p2
                      have d3 : decide (h.be ≤ x.ba) = true := decide_eq_true q1
                      have d4 : decide (x.ba < g) = false := decide_eq_false q2
                      have b0 : 0 ≤ x.be := by omega
                      have b1 : x.be ≤ h.ba := by omega
                      have b2 : h.be ≤ g := by omega
                      have b3 : g ≤ (ls.length : Int) - 1 := by omega
                      clear HE p1 p2 q1 q2
                      go_wp2
                      go_roundw
                      case rel => exact ⟨k + 1, x.be, g, by omega, rfl, rfl, by go_num, L4, b0, b1, b2, b3, HF3, HT3⟩
                      case measure => simp [intOf]; omega
                  · have HF3 : Hid (x.be = _) := (show fr h f x = x.be by rw [fr_yes p1, if_pos p2]).symm.trans HE.out.1
                    have HT3 : Hid (g = _) := (show tt h g x = g by rw [tt_no q1]).symm.trans HE.out.2
                    have d1 : decide (x.be ≤ h.ba) = true := decide_eq_true p1
                    have d2 : decide (f < x.be) = true := decide_eq_true p2
                    have d3 : decide (h.be ≤ x.ba) = false := decide_eq_false q1
                    have b0 : 0 ≤ x.be := by omega
                    have b1 : x.be ≤ h.ba := by omega
                    have b2 : h.be ≤ g := by omega
                    have b3 : g ≤ (ls.length : Int) - 1 := by omega
                    clear HE p1 p2 q1
                    go_wp2
                    go_roundw
                    case rel => exact ⟨k + 1, x.be, g, by omega, rfl, rfl, by go_num, L4, b0, b1, b2, b3, HF3, HT3⟩
                    case measure => simp [intOf]; omega
                · by_cases q1 : h.be ≤ x.ba
                  · by_cases q2 : x.ba < g
                    · have HF3 : Hid (f = _) := (show fr h f x = f by rw [fr_yes p1, if_neg p2]).symm.trans HE.out.1
                      have HT3 : Hid (x.ba = _) := (show tt h g x = x.ba by rw [tt_yes q1, if_pos q2]).symm.trans HE.out.2
                      have d1 : decide (x.be ≤ h.ba) = true := decide_eq_true p1
                      have d2 : decide (f < x.be) = false := decide_eq_false p2
                      have d3 : decide (h.be ≤ x.ba) = true := decide_eq_true q1
                      have d4 : decide (x.ba < g) = true := decide_eq_true q2
                      have b0 : 0 ≤ f := by omega
                      have b1 : f ≤ h.ba := by omega
                      have b2 : h.be ≤ x.ba := by omega
                      have b3 : x.ba ≤ (ls.length : Int) - 1 := by omega
                      clear HE p1 p2 q1 q2
                      go_wp2
                      go_roundw
                      case rel => exact ⟨k + 1, f, x.ba, by omega, rfl, rfl, by go_num, L4, b0, b1, b2, b3, HF3, HT3⟩
                      case measure => simp [intOf]; omega
                    · have HF3 : Hid (f = _) := (show fr h f x = f by rw [fr_yes p1, if_neg p2]).symm.trans HE.out.1
                      have HT3 : Hid (g = _) := (show tt h g x = g by rw [tt_yes q1, if_neg q2]).symm.trans HE.out.2
                      have d1 : decide (x.be ≤ h.ba) = true := decide_eq_true p1
                      have d2 : decide (f < x.be) = false := decide_eq_false p2
                      have d3 : decide (h.be ≤ x.ba) = true := decide_eq_true q1
                      have d4 : decide (x.ba < g) = false := decide_eq_false q2
                      have b0 : 0 ≤ f := by omega
                      have b1 : f ≤ h.ba := by omega
                      have b2 : h.be ≤ g := by omega
                      have b3 : g ≤ (ls.length : Int) - 1 := by omega
                      clear HE p1 p2 q1 q2
                      go_wp2
                      go_roundw
                      case rel => exact ⟨k + 1, f, g, by omega, rfl, rfl, by go_num, L4, b0, b1, b2, b3, HF3, HT3⟩
                      case measure => simp [intOf]; omega
                  · have HF3 : Hid (f = _) := (show fr h f x = f by rw [fr_yes p1, if_neg p2]).symm.trans HE.out.1
                    have HT3 : Hid (g = _) := (show tt h g x = g by rw [tt_no q1]).symm.trans HE.out.2
                    have d1 : decide (x.be ≤ h.ba) = true := decide_eq_true p1
                    have d2 : decide (f < x.be) = false := decide_eq_false p2
                    have d3 : decide (h.be ≤ x.ba) = false := decide_eq_false q1
                    have b0 : 0 ≤ f := by omega
                    have b1 : f ≤ h.ba := by omega
                    have b2 : h.be ≤ g := by omega
                    have b3 : g ≤ (ls.length : Int) - 1 := by omega
                    clear HE p1 p2 q1
                    go_wp2
                    go_roundw
                    case rel => exact ⟨k + 1, f, g, by omega, rfl, rfl, by go_num, L4, b0, b1, b2, b3, HF3, HT3⟩
                    case measure => simp [intOf]; omega
              · by_cases q1 : h.be ≤ x.ba
                · by_cases q2 : x.ba < g
                  · have HF3 : Hid (f = _) := (show fr h f x = f by rw [fr_no p1]).symm.trans HE.out.1
                    have HT3 : Hid (x.ba = _) := (show tt h g x = x.ba by rw [tt_yes q1, if_pos q2]).symm.trans HE.out.2
                    have d1 : decide (x.be ≤ h.ba) = false := decide_eq_false p1
                    have d3 : decide (h.be ≤ x.ba) = true := decide_eq_true q1
                    have d4 : decide (x.ba < g) = true := decide_eq_true q2
                    have b0 : 0 ≤ f := by omega
                    have b1 : f ≤ h.ba := by omega
                    have b2 : h.be ≤ x.ba := by omega
                    have b3 : x.ba ≤ (ls.length : Int) - 1 := by omega
                    clear HE p1 q1 q2
                    go_wp2
                    go_roundw
                    case rel => exact ⟨k + 1, f, x.ba, by omega, rfl, rfl, by go_num, L4, b0, b1, b2, b3, HF3, HT3⟩
                    case measure => simp [intOf]; omega
                  · have HF3 : Hid (f = _) := (show fr h f x = f by rw [fr_no p1]).symm.trans HE.out.1
                    have HT3 : Hid (g = _) := (show tt h g x = g by rw [tt_yes q1, if_neg q2]).symm.trans HE.out.2
                    have d1 : decide (x.be ≤ h.ba) = false := decide_eq_false p1
                    have d3 : decide (h.be ≤ x.ba) = true := decide_eq_true q1
                    have d4 : decide (x.ba < g) = false := decide_eq_false q2
                    have b0 : 0 ≤ f := by omega
                    have b1 : f ≤ h.ba := by omega
                    have b2 : h.be ≤ g := by omega
                    have b3 : g ≤ (ls.length : Int) - 1 := by omega
                    clear HE p1 q1 q2
                    go_wp2
                    go_roundw
                    case rel => exact ⟨k + 1, f, g, by omega, rfl, rfl, by go_num, L4, b0, b1, b2, b3, HF3, HT3⟩
                    case measure => simp [intOf]; omega
                · have HF3 : Hid (f = _) := (show fr h f x = f by rw [fr_no p1]).symm.trans HE.out.1
                  have HT3 : Hid (g = _) := (show tt h g x = g by rw [tt_no q1]).symm.trans HE.out.2
                  have d1 : decide (x.be ≤ h.ba) = false := decide_eq_false p1
                  have d3 : decide (h.be ≤ x.ba) = false := decide_eq_false q1
                  have b0 : 0 ≤ f := by omega
                  have b1 : f ≤ h.ba := by omega
                  have b2 : h.be ≤ g := by omega
                  have b3 : g ≤ (ls.length : Int) - 1 := by omega
                  clear HE p1 q1
                  go_wp2
                  go_roundw
                  case rel => exact ⟨k + 1, f, g, by omega, rfl, rfl, by go_num, L4, b0, b1, b2, b3, HF3, HT3⟩
                  case measure => simp [intOf]; omega
            · have n3 : (x.se != h.se) = true := by simp [e3]
              have HE : Hid (_) := HN.out (fun hk => e3 ((key_eq.1 hk).2.2.2))
              have HE1 : Hid (f = _) := HE.out.1
              have HE2 : Hid (g = _) := HE.out.2
              clear HN HY HE e0 e1 e2 e3
              go_wp2
              go_roundw
              case rel => exact ⟨k + 1, f, g, by omega, rfl, rfl, by go_num, L4, f0, f1, t0, t1, HE1, HE2⟩
              case measure => simp [intOf]; omega
          · have n2 : (x.co != h.co) = true := by simp [e2]
            have HE : Hid (_) := HN.out (fun hk => e2 ((key_eq.1 hk).2.2.1))
            have HE1 : Hid (f = _) := HE.out.1
            have HE2 : Hid (g = _) := HE.out.2
            clear HN HY HE e0 e1 e2
            go_wp2
            go_roundw
            case rel => exact ⟨k + 1, f, g, by omega, rfl, rfl, by go_num, L4, f0, f1, t0, t1, HE1, HE2⟩
            case measure => simp [intOf]; omega
        · have n1 : (x.dy != h.dy) = true := by simp [e1]
          have HE : Hid (_) := HN.out (fun hk => e1 ((key_eq.1 hk).2.1))
          have HE1 : Hid (f = _) := HE.out.1
          have HE2 : Hid (g = _) := HE.out.2
          clear HN HY HE e0 e1
          go_wp2
          go_roundw
          case rel => exact ⟨k + 1, f, g, by omega, rfl, rfl, by go_num, L4, f0, f1, t0, t1, HE1, HE2⟩
          case measure => simp [intOf]; omega
      · have n0 : (x.tr != h.tr) = true := by simp [e0]
        have HE : Hid (_) := HN.out (fun hk => e0 ((key_eq.1 hk).1))
        have HE1 : Hid (f = _) := HE.out.1
        have HE2 : Hid (g = _) := HE.out.2
        clear HN HY HE e0
        go_wp2
        go_roundw
        case rel => exact ⟨k + 1, f, g, by omega, rfl, rfl, by go_num, L4, f0, f1, t0, t1, HE1, HE2⟩
        case measure => simp [intOf]; omega
    · obtain rfl : k = l.length := by omega
      have HE : Hid (_) := HV.out f g (by rw [HF.out, List.take_length]) (by rw [HT.out, List.take_length])
      clear HF HT
      go_wp2
      go_ret
      exact ⟨by rw [HE.out] <;> rfl, join_below ND L⟩

end Se
end Go.Proofs.Ytiollklighmojad
