/- Contracts of what a way costs, of the program and of its model. -/
import Derived.Test.YtmhongcbgokiladTfOkS
import Derived.Test.YtmhongcbgokiladTfInts
namespace Go.Proofs.Ytmhongcbgokilad
namespace Tf
open Go.ChangeShapes Go.WideShapes Go.ChangeAt Go.RowKit
open Pk (new_below join_below cell_at heap_new frozen_at lt_of kept heap_old Drawn)
set_option linter.unusedSimpArgs false
set_option linter.unusedVariables false

theorem leS_yes {a b acc : Int} {e : Ed} (h1 : hasS e a = true) (h2 : oth e a = b) (h3 : acc = -1 ∨ e.co < acc) : leS a b acc e = e.co := by
  unfold leS
  rw [if_pos ⟨by rw [h1, h2]; simp, h3⟩]

theorem leS_no1 {a b acc : Int} {e : Ed} (h1 : hasS e a = false) : leS a b acc e = acc := by
  unfold leS
  rw [if_neg (by rw [h1]; simp)]

theorem leS_no2 {a b acc : Int} {e : Ed} (h2 : oth e a ≠ b) : leS a b acc e = acc := by
  unfold leS
  rw [if_neg (by simp [h2])]

theorem leS_no3 {a b acc : Int} {e : Ed} (h3 : acc ≠ -1) (h4 : ¬ e.co < acc) : leS a b acc e = acc := by
  unfold leS
  rw [if_neg (by rintro ⟨-, h | h⟩ <;> omega)]

theorem from_val (p : Ed) (s : Int) (w : World) :
    Calls Try.prog 97 #[lgV p, .int .i64 s] w fun e w' => e = .returned (.tuple #[.int .i64 (oth p s), .bool (hasS p s)]) ∧ Below w.heap.size w w' := by
  obtain ⟨ea, eb, co⟩ := p
  have N := new_below w (edO ⟨ea, eb, co⟩ 115)
  by_cases h1 : ea = s
  · subst h1
    have HV : Hid (oth ⟨ea, eb, co⟩ ea = eb ∧ hasS ⟨ea, eb, co⟩ ea = true) := ⟨by simp [oth], by simp [hasS]⟩
    go_enter Try.func97, Try.ntmps97
    go_wp2
    refine bodyPost_ret (results_tmp2 rfl _ _ _) rfl ?_
    exact ⟨by rw [HV.out.1, HV.out.2] <;> rfl, N⟩
  have e1 : (s == ea) = false := beq_eq_false_iff_ne.2 (fun h => h1 h.symm)
  by_cases h2 : eb = s
  · subst h2
    have HV : Hid (oth ⟨ea, eb, co⟩ eb = ea ∧ hasS ⟨ea, eb, co⟩ eb = true) := ⟨by simp [oth, h1], by simp [hasS]⟩
    clear h1
    go_enter Try.func97, Try.ntmps97
    go_wp2
    refine bodyPost_ret (results_tmp2 rfl _ _ _) rfl ?_
    exact ⟨by rw [HV.out.1, HV.out.2] <;> rfl, N⟩
  have e2 : (s == eb) = false := beq_eq_false_iff_ne.2 (fun h => h2 h.symm)
  have HV : Hid (oth ⟨ea, eb, co⟩ s = 0 ∧ hasS ⟨ea, eb, co⟩ s = false) := ⟨by simp [oth, h1, h2], by simp [hasS, h1, h2]⟩
  clear h1 h2
  go_enter Try.func97, Try.ntmps97
  go_wp2
  refine bodyPost_ret (results_tmp2 rfl _ _ _) rfl ?_
  exact ⟨by rw [HV.out.1, HV.out.2] <;> rfl, N⟩

theorem other_val (p : Ed) (s : Int) (w : World) :
    Calls Try.prog 73 #[lgV p, .int .i64 s] w fun e w' => e = .returned (.int .i64 (oth p s)) ∧ Below w.heap.size w w' := by
  obtain ⟨ea, eb, co⟩ := p
  have N := new_below w (edO ⟨ea, eb, co⟩ 115)
  by_cases h1 : ea = s
  · subst h1
    have HV : Hid (oth ⟨ea, eb, co⟩ ea = eb) := by simp [oth, Hid]
    go_enter Try.func73, Try.ntmps73
    go_wp2
    go_ret
    exact ⟨by rw [HV.out] <;> rfl, N⟩
  have e1 : (ea == s) = false := beq_eq_false_iff_ne.2 h1
  by_cases h2 : eb = s
  · subst h2
    have HV : Hid (oth ⟨ea, eb, co⟩ eb = ea) := by simp [oth, h1, Hid]
    clear h1
    go_enter Try.func73, Try.ntmps73
    go_wp2
    go_ret
    exact ⟨by rw [HV.out] <;> rfl, N⟩
  have e2 : (eb == s) = false := beq_eq_false_iff_ne.2 h2
  have HV : Hid (oth ⟨ea, eb, co⟩ s = 0) := by simp [oth, h1, h2, Hid]
  clear h1 h2
  go_enter Try.func73, Try.ntmps73
  go_wp2
  go_ret
  exact ⟨by rw [HV.out] <;> rfl, N⟩

set_option maxHeartbeats 2000000 in
set_option maxRecDepth 100000 in
theorem least_val (a : Option Addr) (l : List Ed) (cap : Nat) (x y : Int) (w : World) (hl : l.length ≤ 200) (hE : ∀ e ∈ l, edB e = true) (I : Edges w a l) :
    Calls Try.prog 72 #[.slice a l.length cap, .int .i64 x, .int .i64 y] w fun e w' => e = .returned (.int .i64 (leV l x y)) ∧ Below w.heap.size w w' := by
  have HE : Hid (∀ e ∈ l, edB e = true) := hE
  clear hE
  go_enter Try.func72, Try.ntmps72
  go_wp2
  go_loopw [7, 14] (fun t i wr => ∃ (k : Nat) (A : Int), k ≤ l.length ∧ i = .int .i64 k ∧ t = .int .i64 A ∧ Below w.heap.size w wr ∧ Hid (-1 ≤ A ∧ A ≤ 1000000) ∧ Hid (leV l x y = (l.drop k).foldl (leS x y) A)) (fun _ i _ => l.length - (intOf i).toNat)
  case atStart => exact ⟨0, -1, by omega, rfl, rfl, Below.refl _ _, ⟨by omega, by omega⟩, rfl⟩
  case round =>
    obtain ⟨k, A, hk, rfl, rfl, L, HB, H⟩ := hrel
    by_cases hkn : k < l.length
    · obtain ⟨b, o, rfl, hlt, c0, c1, c2⟩ := (I.on L).at k hkn
      have HS : Hid (leV l x y = (l.drop (k + 1)).foldl (leS x y) (leS x y A l[k])) := H.out.trans (leF_step l x y A k hkn)
      have HO : Hid (_) := leS_lo (a := x) (b := y) (HE.out l[k] (List.getElem_mem hkn)) HB.out
      clear H HB HE
      generalize l[k] = p at *
      have N := join_below L (new_below wr (edO p 115))
      have m0 := heap_new wr (edO p 115)
      have HF : Hid (∀ w, _) := fun w => from_val p x w
      go_wp2_with fail
      refine (HF.out _).mono ?_
      rintro e w1 ⟨rfl, L1⟩
      have m1 := kept L1 (lt_of m0) m0
      have d2 : w1.cell? ⟨wr.heap.size, 2, none⟩ = some (.int .i64 p.co) := cell_at m1 2
      have L2 := join_below N L1
      clear m0 m1 N L1 c0 c1 c2 HF
      have Y := @leS_yes x y A p
      have N1 := @leS_no1 x y A p
      have N2 := @leS_no2 x y A p
      have N3 := @leS_no3 x y A p
      have HYN : Hid (_ ∧ _ ∧ _ ∧ _) := ⟨Y, N1, N2, N3⟩
      clear Y N1 N2 N3
      generalize oth p x = q at *
      generalize hasS p x = B at *
      generalize leS x y A p = V at *
      cases B
      · obtain rfl := HYN.out.2.1 rfl
        go_wp2
        go_roundw
        case rel => exact ⟨k + 1, V, by omega, by go_num, rfl, L2, HO, HS⟩
        case measure => simp [intOf]; omega
      by_cases h2 : q = y
      · have e2 : (q == y) = true := beq_iff_eq.2 h2
        by_cases h3 : A = -1
        · obtain rfl := HYN.out.1 rfl h2 (Or.inl h3)
          have e3 : (A == -1) = true := beq_iff_eq.2 h3
          clear h2 h3 HYN
          go_wp2
          go_roundw
          case rel => exact ⟨k + 1, p.co, by omega, by go_num, rfl, L2, HO, HS⟩
          case measure => simp [intOf]; omega
        · have e3 : (A == -1) = false := beq_eq_false_iff_ne.2 h3
          by_cases h4 : p.co < A
          · obtain rfl := HYN.out.1 rfl h2 (Or.inr h4)
            clear h2 h3 HYN
            go_wp2
            go_roundw
            case rel => exact ⟨k + 1, p.co, by omega, by go_num, rfl, L2, HO, HS⟩
            case measure => simp [intOf]; omega
          · obtain rfl := HYN.out.2.2.2 h3 h4
            clear h2 h3 HYN
            go_wp2
            go_roundw
            case rel => exact ⟨k + 1, V, by omega, by go_num, rfl, L2, HO, HS⟩
            case measure => simp [intOf]; omega
      · have e2 : (q == y) = false := beq_eq_false_iff_ne.2 h2
        obtain rfl := HYN.out.2.2.1 h2
        clear h2 HYN
        go_wp2
        go_roundw
        case rel => exact ⟨k + 1, V, by omega, by go_num, rfl, L2, HO, HS⟩
        case measure => simp [intOf]; omega
    · have HV : Hid (leV l x y = A) := by
        show _ = _
        rw [H.out, List.drop_eq_nil_of_le (by omega)]
        rfl
      go_wp2
      go_ret
      exact ⟨by rw [HV.out] <;> rfl, L⟩

end Tf
end Go.Proofs.Ytmhongcbgokilad
