/- The contract of the model's TrainOk. -/
import Derived.Test.YtfoccmhmgdengaaTnOk2
namespace Go.Proofs.Ytfoccmhmgdengaa
namespace Tn
open Go.ChangeShapes Go.WideShapes Go.ChangeAt Go.RowKit
open Pk (new_below join_below cell_at heap_new frozen_at lt_of kept heap_old)
set_option linter.unusedSimpArgs false
set_option linter.unusedVariables false

theorem ok_parts (t : Hd) (l : List St) : okB t l = (inB t.id 1 9999 && (inB t.dy 1 127 && (inB t.co 0 20 && (inB t.se 0 90 && (!((t.co == 0) != (t.se == 0)) && (inB l.length 2 20 && stepsFrom l 0)))))) := by
  unfold okB headB stopsB
  rw [← seat_is]
  have e : (!((t.co == 0) != (t.se == 0))) = ((t.co == 0) == (t.se == 0)) := by simp [bne]
  rw [e]
  generalize ((t.co == 0) == (t.se == 0)) = x
  generalize inB t.id 1 9999 = a
  generalize inB t.dy 1 127 = b
  generalize inB t.co 0 20 = c
  generalize inB t.se 0 90 = d
  generalize inB (l.length : Int) 2 20 = f
  generalize stepsFrom l 0 = g
  cases a <;> cases b <;> cases c <;> cases d <;> cases x <;> cases f <;> cases g <;> rfl

set_option maxHeartbeats 8000000 in
set_option maxRecDepth 100000 in
theorem specOk_val (t : Hd) (a : Option Addr) (l : List St) (cap : Nat) (w : World) (hl : l.length ≤ maxLen) (I : Stops w a l) :
    Calls Try.prog 40 #[trV t a l.length cap] w fun e w' => e = .returned (.bool (okB t l)) ∧ Below w.heap.size w w' := by
  unfold maxLen at hl
  have HO : Hid (_) := ok_parts t l
  generalize okB t l = R at *
  have H1 : Hid (∀ w, _) := fun w => in_val t.id 1 9999 w
  have H2 : Hid (∀ w, _) := fun w => in_val t.dy 1 127 w
  have H3 : Hid (∀ w, _) := fun w => in_val t.co 0 20 w
  have H4 : Hid (∀ w, _) := fun w => in_val t.se 0 90 w
  have H5 : Hid (∀ w, _) := fun w => in_val (l.length : Int) 2 20 w
  have N := new_below w (trB t a l.length cap 33)
  have m0 := heap_new w (trB t a l.length cap 33)
  have I0 := I.on N
  obtain ⟨id, dy, co, se⟩ := t
  dsimp only at HO H1 H2 H3 H4
  generalize inB id 1 9999 = b1 at *
  generalize inB dy 1 127 = b2 at *
  generalize inB co 0 20 = b3 at *
  generalize inB se 0 90 = b4 at *
  generalize inB (l.length : Int) 2 20 = b5 at *
  generalize hc : (co == 0) = c0 at HO
  generalize hs : (se == 0) = s0 at HO
  generalize he : (c0 != s0) = e5 at HO
  go_enter Try.func40, Try.ntmps40
  go_wp2_with fail
  refine (H1.out _).mono ?_
  rintro e w1 ⟨rfl, rfl⟩
  cases b1
  · go_wp2
    go_ret
    exact ⟨by rw [HO.out] <;> rfl, N⟩
  go_wp2_with fail
  refine (H2.out _).mono ?_
  rintro e w1 ⟨rfl, rfl⟩
  cases b2
  · go_wp2
    go_ret
    exact ⟨by rw [HO.out] <;> rfl, N⟩
  go_wp2_with fail
  refine (H3.out _).mono ?_
  rintro e w1 ⟨rfl, rfl⟩
  cases b3
  · go_wp2
    go_ret
    exact ⟨by rw [HO.out] <;> rfl, N⟩
  go_wp2_with fail
  refine (H4.out _).mono ?_
  rintro e w1 ⟨rfl, rfl⟩
  cases b4
  · go_wp2
    go_ret
    exact ⟨by rw [HO.out] <;> rfl, N⟩
  cases e5
  case true =>
    have hne : ¬ c0 = s0 := by simpa using he
    clear he
    go_wp2
    go_ret
    exact ⟨by rw [HO.out] <;> rfl, N⟩
  obtain rfl : c0 = s0 := by simpa using he
  clear he
  go_wp2_with fail
  refine (H5.out _).mono ?_
  rintro e w1 ⟨rfl, rfl⟩
  cases b5
  · go_wp2
    go_ret
    exact ⟨by rw [HO.out] <;> rfl, N⟩
  have HOK : Hid (R = stepsFrom l 0) := HO.out
  clear H1 H2 H3 H4 H5 HO
  go_wp2
  generalize w.alloc (trB ⟨id, dy, co, se⟩ a l.length cap 33) = W at *
  go_loopw [3] (fun i wr => ∃ k : Nat, k ≤ l.length ∧ i = .int .i64 k ∧ Below W.heap.size W wr ∧ Hid (stepsFrom l 0 = stepsFrom l k)) (fun i _ => l.length - (intOf i).toNat)
  case atStart => exact ⟨0, by omega, rfl, Below.refl _ _, rfl⟩
  case round =>
    obtain ⟨k, hk, rfl, L, H⟩ := hrel
    have m := kept L (lt_of m0) m0
    have c4 : wr.cell? ⟨w.heap.size, 4, none⟩ = some (.slice a l.length cap) := cell_at m 4
    by_cases hkn : k < l.length
    · obtain ⟨b, o, rfl, hlt, c0, c1, c2⟩ := (I0.on L).at k hkn
      have HS : Hid (_) := (stepsFrom_step l k hkn)
      have HT : Hid (_) := stepB_at l k hkn
      have NB := new_below wr (.cells #[.int .i64 l[k].st, .int .i64 l[k].ar, .int .i64 l[k].dp] 42)
      have x := heap_new wr (.cells #[.int .i64 l[k].st, .int .i64 l[k].ar, .int .i64 l[k].dp] 42)
      have m1 := kept NB (lt_of m) m
      have L6 := join_below L NB
      have HIT : Hid (∀ j (hj : j < l.length), j < k → l[j].st = l[k].st → idx l l[k].st 0 ≠ k) := fun j hj hjk e => idx_twice l k j hkn hjk e
      have HID : Hid ((∀ i (hi : i < l.length), i < k → l[i].st ≠ l[k].st) → idx l l[k].st 0 = k) := fun h => idx_at l l[k].st k h hkn rfl
      have HG : Hid (∀ j : Nat, k = j + 1 → ∃ hj : j < l.length, gapB l k = decide (l[j].dp < l[k].ar)) := fun j e => ⟨by omega, gapB_pos l k j hkn e⟩
      unfold stB at HT
      have H1 : Hid (∀ w, _) := fun w => in_val l[k].st 1 9999 w
      have H2 : Hid (∀ w, _) := fun w => in_val l[k].ar 0 4000 w
      have H3 : Hid (∀ w, _) := fun w => in_val l[k].dp l[k].ar 4000 w
      generalize inB l[k].st 1 9999 = b1 at *
      generalize inB l[k].ar 0 4000 = b2 at *
      generalize inB l[k].dp l[k].ar 4000 = b3 at *
      generalize hix : idx l l[k].st 0 = ix at *
      generalize l[k] = s at *
      clear hix
      go_wp2_with fail
      have p4 : (wr.alloc (.cells #[.int .i64 s.st, .int .i64 s.ar, .int .i64 s.dp] 42)).cell? ⟨w.heap.size, 4, none⟩ = some (.slice (some ⟨b, o, none⟩) l.length cap) := cell_at m1 4
      have d0 : (wr.alloc (.cells #[.int .i64 s.st, .int .i64 s.ar, .int .i64 s.dp] 42)).cell? ⟨wr.heap.size, 0, none⟩ = some (.int .i64 s.st) := cell_at x 0
      have d1 : (wr.alloc (.cells #[.int .i64 s.st, .int .i64 s.ar, .int .i64 s.dp] 42)).cell? ⟨wr.heap.size, 1, none⟩ = some (.int .i64 s.ar) := cell_at x 1
      have d2 : (wr.alloc (.cells #[.int .i64 s.st, .int .i64 s.ar, .int .i64 s.dp] 42)).cell? ⟨wr.heap.size, 2, none⟩ = some (.int .i64 s.dp) := cell_at x 2
      have I6 := I0.on L6
      clear m m1 x NB c0 c1 c2 c4 L
      generalize wr.alloc (.cells #[.int .i64 s.st, .int .i64 s.ar, .int .i64 s.dp] 42) = W6 at *
      cases b1
      · have HE : Hid (stepsFrom l 0 = false) := by show _ = _; rw [H.out, HS.out, HT.out]; rfl
        go_wp2
        go_quiet ((go_at_call 33; exact Calls.quiet_of_same (by first | (with_reducible exact H1.out _) | (with_reducible exact H2.out _) | (with_reducible exact H3.out _))))
        go_wp2
        go_ret
        exact ⟨by rw [HOK.out, HE.out] <;> rfl, join_below N (L6.trans (Pk.Drawn.below _ ⟨_, rfl⟩))⟩
      cases b2
      · have HE : Hid (stepsFrom l 0 = false) := by show _ = _; rw [H.out, HS.out, HT.out]; rfl
        go_wp2
        go_quiet ((go_at_call 33; exact Calls.quiet_of_same (by first | (with_reducible exact H1.out _) | (with_reducible exact H2.out _) | (with_reducible exact H3.out _))))
        go_wp2
        go_ret
        exact ⟨by rw [HOK.out, HE.out] <;> rfl, join_below N (L6.trans (Pk.Drawn.below _ ⟨_, rfl⟩))⟩
      cases b3
      · have HE : Hid (stepsFrom l 0 = false) := by show _ = _; rw [H.out, HS.out, HT.out]; rfl
        go_wp2
        go_quiet ((go_at_call 33; exact Calls.quiet_of_same (by first | (with_reducible exact H1.out _) | (with_reducible exact H2.out _) | (with_reducible exact H3.out _))))
        go_wp2
        go_ret
        exact ⟨by rw [HOK.out, HE.out] <;> rfl, join_below N (L6.trans (Pk.Drawn.below _ ⟨_, rfl⟩))⟩
      by_cases h0 : k = 0
      · subst h0
        have hd : decide ((0 : Int) < ((0 : Nat) : Int)) = false := rfl
        go_wp2
        go_quiet ((go_at_call 33; exact Calls.quiet_of_same (by first | (with_reducible exact H1.out _) | (with_reducible exact H2.out _) | (with_reducible exact H3.out _))))
        have LD : Below W.heap.size W (W6.drewN nq) := L6.trans (Pk.Drawn.below _ ⟨_, rfl⟩)
        have p4 : (W6.drewN nq).cell? ⟨w.heap.size, 4, none⟩ = some (.slice (some ⟨b, o, none⟩) l.length cap) := p4
        have d0 : (W6.drewN nq).cell? ⟨wr.heap.size, 0, none⟩ = some (.int .i64 s.st) := d0
        have ID := I0.on LD
        generalize W6.drewN nq = W7 at *
        clear H1 H2 H3 L6
        go_wp2
        go_loopw [5] (fun i wz => i = .int .i64 0 ∧ wz = W7) (fun _ _ => 0)
        case atStart => exact ⟨rfl, rfl⟩
        case round =>
          rename_i wz
          obtain ⟨rfl, rfl⟩ := hrel
          have HE : Hid (stepsFrom l 0 = stepsFrom l 1) := by
            show _ = _
            rw [HS.out, HT.out, decide_eq_true (HID.out fun i hi hik => by omega)]
            rfl
          go_wp2
          go_roundw
          case rel => exact ⟨1, by omega, rfl, LD, HE⟩
          case measure => simp [intOf]; omega
      · obtain ⟨j', hj'⟩ : ∃ j, k = j + 1 := ⟨k - 1, by omega⟩
        obtain ⟨hjl', hgap⟩ := HG.out j' hj'
        obtain ⟨b', o', he, hlt', -, -, q2⟩ := I6.at j' hjl'
        simp only [Option.some.injEq, Addr.mk.injEq, and_true] at he
        obtain ⟨rfl, rfl⟩ := he
        have hd : decide ((0 : Int) < (k : Int)) = true := decide_eq_true (by omega)
        have hd2 : decide (0 < k) = true := decide_eq_true (by omega)
        have hji : (k : Int) - 1 = (j' : Int) := by omega
        generalize l[j'] = u at *
        by_cases hu : u.dp < s.ar
        · have hu2 : decide (s.ar ≤ u.dp) = false := decide_eq_false (by omega)
          rw [decide_eq_true hu] at hgap
          have HGP : Hid (_) := hgap
          have HJ : Hid (_) := hj'
          clear hgap hj' h0 HG m0
          go_wp2
          go_quiet ((go_at_call 33; exact Calls.quiet_of_same (by first | (with_reducible exact H1.out _) | (with_reducible exact H2.out _) | (with_reducible exact H3.out _))))
          have LD : Below W.heap.size W (W6.drewN nq) := L6.trans (Pk.Drawn.below _ ⟨_, rfl⟩)
          have p4 : (W6.drewN nq).cell? ⟨w.heap.size, 4, none⟩ = some (.slice (some ⟨b, o, none⟩) l.length cap) := p4
          have d0 : (W6.drewN nq).cell? ⟨wr.heap.size, 0, none⟩ = some (.int .i64 s.st) := d0
          have ID := I0.on LD
          generalize W6.drewN nq = W7 at *
          clear H1 H2 H3 L6
          go_wp2
          go_loopw [5] (fun i wz => ∃ j : Nat, j ≤ k ∧ i = .int .i64 j ∧ Pk.Drawn W7 wz ∧ Hid (∀ i (hi : i < l.length), i < j → l[i].st ≠ s.st)) (fun i _ => k - (intOf i).toNat)
          case atStart => exact ⟨0, by omega, rfl, Pk.Drawn.refl _, fun i _ h => by omega⟩
          case round =>
            rename_i wz
            obtain ⟨j, hj, rfl, D, HN⟩ := hrel
            have LZ := LD.trans (Pk.Drawn.below _ D)
            obtain ⟨qz, rfl⟩ := D
            by_cases hjk : j < k
            · have hjl : j < l.length := by omega
              obtain ⟨b', o', he, hlt', q0, -, -⟩ := ID.at j hjl
              simp only [Option.some.injEq, Addr.mk.injEq, and_true] at he
              obtain ⟨rfl, rfl⟩ := he
              have q0 : (W7.drewN qz).cell? ⟨b, o + j * 3, none⟩ = some (.int .i64 l[j].st) := q0
              have p5 : (W7.drewN qz).cell? ⟨w.heap.size, 4, none⟩ = some (.slice (some ⟨b, o, none⟩) l.length cap) := p4
              have d5 : (W7.drewN qz).cell? ⟨wr.heap.size, 0, none⟩ = some (.int .i64 s.st) := d0
              by_cases e : l[j].st = s.st
              · have HE : Hid (stepsFrom l 0 = false) := by
                  show _ = _
                  rw [H.out, HS.out, HT.out, decide_eq_false (HIT.out j hjl hjk e)]
                  simp
                have e2 : (l[j].st == s.st) = true := beq_iff_eq.2 e
                clear e HN
                generalize W7.drewN qz = W8 at *
                go_wp2
                go_quiet (fail)
                go_wp2
                go_ret
                exact ⟨by rw [HOK.out, HE.out] <;> rfl, join_below N (LZ.trans (Pk.Drawn.below _ ⟨_, rfl⟩))⟩
              · have HE : Hid (∀ i (hi : i < l.length), i < j + 1 → l[i].st ≠ s.st) := by
                  intro i hi hik
                  by_cases h : i = j
                  · subst h; exact e
                  · exact HN.out i hi (by omega)
                have e2 : (l[j].st == s.st) = false := beq_eq_false_iff_ne.2 e
                clear e HN
                have HD : Hid (∀ n, Pk.Drawn W7 ((W7.drewN qz).drewN n)) := fun n => ⟨qz + n, by rw [World.drewN_drewN]⟩
                generalize W7.drewN qz = W8 at *
                go_wp2
                go_quiet (fail)
                go_wp2
                go_roundw
                case rel => exact ⟨j + 1, by omega, by go_num, HD.out _, HE⟩
                case measure => simp [intOf]; omega
            · have HE : Hid (stepsFrom l 0 = stepsFrom l (k + 1)) := by
                show _ = _
                rw [H.out, HS.out, HT.out, decide_eq_true (HID.out fun i hi hik => HN.out i hi (by omega))]
                rw [HGP.out]; rfl
              clear HN
              generalize W7.drewN qz = W8 at *
              go_wp2
              go_roundw
              case rel => exact ⟨k + 1, by omega, by go_num, LZ, HE⟩
              case measure => simp [intOf]; omega
        · have hu2 : decide (s.ar ≤ u.dp) = true := decide_eq_true (by omega)
          rw [decide_eq_false hu] at hgap
          have HE : Hid (stepsFrom l 0 = false) := by show _ = _; rw [H.out, HS.out, HT.out, hgap]; simp
          have HJ : Hid (_) := hj'
          clear hgap hj' h0 HG m0 H HS HT
          go_wp2
          go_quiet ((go_at_call 33; exact Calls.quiet_of_same (by first | (with_reducible exact H1.out _) | (with_reducible exact H2.out _) | (with_reducible exact H3.out _))))
          go_wp2
          go_ret
          exact ⟨by rw [HOK.out, HE.out] <;> rfl, join_below N (L6.trans (Pk.Drawn.below _ ⟨_, rfl⟩))⟩
    · have HE : Hid (stepsFrom l 0 = true) := by show _ = _; rw [H.out, stepsFrom_end l k hkn]
      go_wp2
      go_ret
      exact ⟨by rw [HOK.out, HE.out] <;> rfl, join_below N L⟩

end Tn
end Go.Proofs.Ytfoccmhmgdengaa
