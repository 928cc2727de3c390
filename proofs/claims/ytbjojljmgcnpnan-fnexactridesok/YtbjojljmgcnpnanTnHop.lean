/- Contracts of the times of a ride, of the model and of the program. -/
import Derived.Test.YtbjojljmgcnpnanTnFind
import Derived.Test.YtbjojljmgcnpnanTnTakes
import Derived.Test.YtbjojljmgcnpnanTnRuns
import Derived.Test.YtbjojljmgcnpnanTnRides
namespace Go.Proofs.Ytbjojljmgcnpnan
namespace Tn
open Go.ChangeShapes Go.WideShapes Go.ChangeAt Go.RowKit
open Pk (new_below join_below cell_at heap_new frozen_at lt_of kept heap_old info_of own_form own_below Room)
open Rd (Ri)
set_option linter.unusedSimpArgs false
set_option linter.unusedVariables false

/-- What is found, as a train. -/
def rT (r : Option Tr) : Tr := match r with
  | some t => t
  | none => ⟨⟨0, 0, 0, 0⟩, []⟩

theorem rT_le {ts : List Tr} {M : Nat} (h : ∀ i (hi : i < ts.length), ts[i].l.length ≤ M) (id : Int) : (rT (fnd ts id)).l.length ≤ M := by
  cases hf : fnd ts id with
  | none => simp [rT]
  | some t =>
    have hm : t ∈ ts := List.mem_of_find?_eq_some hf
    obtain ⟨i, hi, rfl⟩ := List.getElem_of_mem hm
    exact h i hi

theorem found_any {w w' : World} {r : Option Tr} {e : Ending} (h : Found w w' r e) : ∃ va vc, e = .returned (.tuple #[trV (rT r).h va (rT r).l.length vc, .bool r.isSome]) ∧ w'.ownsRow w.heap.size 63 3 (.slice va (rT r).l.length vc) (rT r).l.length (scells (rT r).l) := by
  cases r with
  | none => exact ⟨none, 0, h, rfl, Or.inl ⟨rfl, rfl⟩⟩
  | some t =>
    obtain ⟨v, he, ho⟩ := h
    obtain ⟨va, vc, rfl, -⟩ := own_form ho
    exact ⟨va, vc, he, ho⟩

/-- Whether a ride can be, when it sets out, when it arrives. -/
def hopB (ts : List Tr) (r : Ri) : Bool := (fnd ts r.tr).isSome && (cutB (rT (fnd ts r.tr)).h (rT (fnd ts r.tr)).l r.fr r.to && runsB (rT (fnd ts r.tr)).h (rT (fnd ts r.tr)).l r.dy)
def hopD (ts : List Tr) (r : Ri) : Int := if hopB ts r = true then 1440 * r.dy + ((rT (fnd ts r.tr)).l.getD (cutA (rT (fnd ts r.tr)).h (rT (fnd ts r.tr)).l r.fr r.to).toNat z0).dp else 0
def hopA (ts : List Tr) (r : Ri) : Int := if hopB ts r = true then 1440 * r.dy + ((rT (fnd ts r.tr)).l.getD (cutZ (rT (fnd ts r.tr)).h (rT (fnd ts r.tr)).l r.fr r.to).toNat z0).ar else 0

theorem hop_no {ts : List Tr} {r : Ri} (h : hopB ts r = false) : hopD ts r = 0 ∧ hopA ts r = 0 := by
  unfold hopD hopA
  rw [h]
  exact ⟨rfl, rfl⟩

theorem runs_day {t : Hd} {l : List St} {d : Int} (h : runsB t l d = true) : 0 ≤ d ∧ d ≤ 99999 := by
  unfold runsB at h
  simp only [Bool.and_eq_true] at h
  exact inB_yes h.2.1

/-- What a ride that can be tells. -/
theorem hop_is {ts : List Tr} {r : Ri} (h : hopB ts r = true) : ∃ i j : Nat, ∃ (hi : i < (rT (fnd ts r.tr)).l.length) (hj : j < (rT (fnd ts r.tr)).l.length), i < j ∧ cutB (rT (fnd ts r.tr)).h (rT (fnd ts r.tr)).l r.fr r.to = true ∧ cutA (rT (fnd ts r.tr)).h (rT (fnd ts r.tr)).l r.fr r.to = i ∧ cutZ (rT (fnd ts r.tr)).h (rT (fnd ts r.tr)).l r.fr r.to = j ∧ (rT (fnd ts r.tr)).l[i].st = r.fr ∧ (rT (fnd ts r.tr)).l[j].st = r.to ∧ (rT (fnd ts r.tr)).h.id = r.tr ∧ hopD ts r = 1440 * r.dy + (rT (fnd ts r.tr)).l[i].dp ∧ hopA ts r = 1440 * r.dy + (rT (fnd ts r.tr)).l[j].ar ∧ 0 ≤ r.dy ∧ r.dy ≤ 99999 := by
  have h0 := h
  unfold hopB at h
  simp only [Bool.and_eq_true] at h
  obtain ⟨h1, h2, h3⟩ := h
  obtain ⟨i, j, hi, hj, hij, e1, e2, -, -, e3, e4⟩ := cut_is h2
  have hid : (rT (fnd ts r.tr)).h.id = r.tr := by
    cases hf : fnd ts r.tr with
    | none => rw [hf] at h1; cases h1
    | some t =>
      have := List.find?_some hf
      simpa [rT] using this
  refine ⟨i, j, hi, hj, hij, h2, e1, e2, e3, e4, hid, ?_, ?_, runs_day h3⟩
  · unfold hopD
    rw [if_pos h0, e1, Int.toNat_natCast, getD_at _ i hi]
  · unfold hopA
    rw [if_pos h0, e2, Int.toNat_natCast, getD_at _ j hj]

set_option maxHeartbeats 4000000 in
theorem times_val (a : Option Addr) (ts : List Tr) (cap : Nat) (r : Ri) (w : World) (hn : ts.length ≤ 1048576) (hs : ∀ i (h : i < ts.length), ts[i].l.length ≤ 1048576) (I : Trains w a ts) :
    Calls Try.prog 46 #[.slice a ts.length cap, Rd.lgV r] w fun e w' => e = .returned (.tuple #[.int .i64 (hopD ts r), .int .i64 (hopA ts r), .bool (hopB ts r)]) ∧ Below w.heap.size w w' := by
  have hq := rT_le hs r.tr
  have HF : Hid (∀ w, Trains w a ts → _) := fun w I => specFind_val a ts cap r.tr w hn hs I
  have HNO : Hid (hopB ts r = false → hopD ts r = 0 ∧ hopA ts r = 0) := hop_no
  have HYE : Hid (hopB ts r = true → _) := fun h => hop_is h
  have HB : Hid (hopB ts r = ((fnd ts r.tr).isSome && (cutB (rT (fnd ts r.tr)).h (rT (fnd ts r.tr)).l r.fr r.to && runsB (rT (fnd ts r.tr)).h (rT (fnd ts r.tr)).l r.dy))) := rfl
  clear hn hs
  have N1 := new_below w (.cells #[.int .i64 r.tr, .int .i64 r.dy, .int .i64 r.fr, .int .i64 r.to] 68)
  have m0 := heap_new w (.cells #[.int .i64 r.tr, .int .i64 r.dy, .int .i64 r.fr, .int .i64 r.to] 68)
  have I1 := I.on N1
  generalize hopD ts r = D at *
  generalize hopA ts r = Z at *
  generalize hopB ts r = HBv at *
  go_enter Try.func46, Try.ntmps46
  go_wp2_with fail
  refine (HF.out _ I1).mono ?_
  rintro e w2 ⟨F2, L2⟩
  obtain ⟨ua, uc, rfl, O2⟩ := found_any F2
  have K2 := join_below N1 L2
  have m2 := kept L2 (lt_of m0) m0
  have HC : Hid (∀ (a : Option Addr) (cap : Nat) (w : World), Stops w a (rT (fnd ts r.tr)).l → _) := fun a cap w I => specCut_val (rT (fnd ts r.tr)).h r.fr r.to a (rT (fnd ts r.tr)).l cap w (by unfold maxLen; omega) I
  have HR : Hid (∀ (a : Option Addr) (cap : Nat) (w : World), Stops w a (rT (fnd ts r.tr)).l → _) := fun a cap w I => specRuns_val (rT (fnd ts r.tr)).h r.dy a (rT (fnd ts r.tr)).l cap w (by unfold maxLen; omega) I
  unfold cutV at HC
  have HOK : Hid (∀ k (hk : k < (rT (fnd ts r.tr)).l.length), cutB (rT (fnd ts r.tr)).h (rT (fnd ts r.tr)).l r.fr r.to = true → 0 ≤ (rT (fnd ts r.tr)).l[k].ar ∧ (rT (fnd ts r.tr)).l[k].ar ≤ 4000 ∧ 0 ≤ (rT (fnd ts r.tr)).l[k].dp ∧ (rT (fnd ts r.tr)).l[k].dp ≤ 4000) := by
    intro k hk hc
    have := ok_stop (cut_ok hc) k hk
    omega
  generalize (fnd ts r.tr).isSome = fb at *
  generalize rT (fnd ts r.tr) = T at *
  generalize cutA T.h T.l r.fr r.to = cA at *
  generalize cutZ T.h T.l r.fr r.to = cZ at *
  generalize cutB T.h T.l r.fr r.to = cB at *
  generalize runsB T.h T.l r.dy = rB at *
  clear F2 HF m0 I1 L2 N1 I
  have N3 := new_below w2 (trB T.h ua T.l.length uc 29)
  have x3 := heap_new w2 (trB T.h ua T.l.length uc 29)
  have m3 := kept N3 (lt_of m2) m2
  have K3 := join_below K2 N3
  have S3 := (stops_own O2).on N3
  have c0 : (w2.alloc (trB T.h ua T.l.length uc 29)).cell? ⟨w.heap.size, 0, none⟩ = some (.int .i64 r.tr) := cell_at m3 0
  have c1 : (w2.alloc (trB T.h ua T.l.length uc 29)).cell? ⟨w.heap.size, 1, none⟩ = some (.int .i64 r.dy) := cell_at m3 1
  have c2 : (w2.alloc (trB T.h ua T.l.length uc 29)).cell? ⟨w.heap.size, 2, none⟩ = some (.int .i64 r.fr) := cell_at m3 2
  have c3 : (w2.alloc (trB T.h ua T.l.length uc 29)).cell? ⟨w.heap.size, 3, none⟩ = some (.int .i64 r.to) := cell_at m3 3
  clear N3 m2 K2 O2
  go_wp2_with fail
  refine (HC.out _ _ _ S3).mono ?_
  rintro e w4 ⟨rfl, L4⟩
  have K4 := join_below K3 L4
  have m4 := kept L4 (lt_of m3) m3
  have x4 := kept L4 (lt_of x3) x3
  have S4 := S3.on L4
  clear c0 c1 c2 c3 HC K3 L4 m3 x3 S3
  have c0 : w4.cell? ⟨w.heap.size, 0, none⟩ = some (.int .i64 r.tr) := cell_at m4 0
  have c1 : w4.cell? ⟨w.heap.size, 1, none⟩ = some (.int .i64 r.dy) := cell_at m4 1
  have c2 : w4.cell? ⟨w.heap.size, 2, none⟩ = some (.int .i64 r.fr) := cell_at m4 2
  have c3 : w4.cell? ⟨w.heap.size, 3, none⟩ = some (.int .i64 r.to) := cell_at m4 3
  have d0 : w4.cell? ⟨w2.heap.size, 0, none⟩ = some (.int .i64 T.h.id) := cell_at x4 0
  have d1 : w4.cell? ⟨w2.heap.size, 1, none⟩ = some (.int .i64 T.h.dy) := cell_at x4 1
  have d2 : w4.cell? ⟨w2.heap.size, 2, none⟩ = some (.int .i64 T.h.co) := cell_at x4 2
  have d3 : w4.cell? ⟨w2.heap.size, 3, none⟩ = some (.int .i64 T.h.se) := cell_at x4 3
  have d4 : w4.cell? ⟨w2.heap.size, 4, none⟩ = some (.slice ua T.l.length uc) := cell_at x4 4
  cases fb
  · obtain rfl : HBv = false := HB.out
    obtain ⟨rfl, rfl⟩ := HNO.out rfl
    clear HB HNO HYE HR HOK
    go_wp2
    go_ret3
    exact ⟨rfl, K4⟩
  cases cB
  · obtain rfl : HBv = false := HB.out
    obtain ⟨rfl, rfl⟩ := HNO.out rfl
    clear HB HNO HYE HR HOK
    go_wp2
    go_ret3
    exact ⟨rfl, K4⟩
  go_wp2_with fail
  refine (HR.out _ _ _ S4).mono ?_
  rintro e w5 ⟨rfl, L5⟩
  have K5 := join_below K4 L5
  have m5 := kept L5 (lt_of m4) m4
  have x5 := kept L5 (lt_of x4) x4
  have S5 := S4.on L5
  clear c0 c1 c2 c3 d0 d1 d2 d3 d4 HR K4 L5 m4 x4 S4
  cases rB
  · obtain rfl : HBv = false := HB.out
    obtain ⟨rfl, rfl⟩ := HNO.out rfl
    clear HB HNO HYE HOK
    go_wp2
    go_ret3
    exact ⟨rfl, K5⟩
  obtain rfl : HBv = true := HB.out
  obtain ⟨i, j, hi, hj, hij, -, rfl, rfl, e1, e2, e3, rfl, rfl, hd0, hd1⟩ := HYE.out rfl
  have oi := HOK.out i hi (by simp)
  have oj := HOK.out j hj (by simp)
  obtain ⟨b, o, rfl, -, -, -, p2⟩ := S5.at i hi
  obtain ⟨b', o', he, -, -, q1, -⟩ := S5.at j hj
  simp only [Option.some.injEq, Addr.mk.injEq, and_true] at he
  obtain ⟨rfl, rfl⟩ := he
  clear HB HNO HYE HOK S5 e1 e2 e3
  have c0 : w5.cell? ⟨w.heap.size, 0, none⟩ = some (.int .i64 r.tr) := cell_at m5 0
  have c1 : w5.cell? ⟨w.heap.size, 1, none⟩ = some (.int .i64 r.dy) := cell_at m5 1
  have c2 : w5.cell? ⟨w.heap.size, 2, none⟩ = some (.int .i64 r.fr) := cell_at m5 2
  have c3 : w5.cell? ⟨w.heap.size, 3, none⟩ = some (.int .i64 r.to) := cell_at m5 3
  have d4 : w5.cell? ⟨w2.heap.size, 4, none⟩ = some (.slice (some ⟨b, o, none⟩) T.l.length uc) := cell_at x5 4
  have hi1 : (i : Int) < (T.l.length : Int) := by omega
  have hj1 : (j : Int) < (T.l.length : Int) := by omega
  obtain ⟨si, hsi⟩ : ∃ s, T.l[i] = s := ⟨_, rfl⟩
  obtain ⟨sj, hsj⟩ : ∃ s, T.l[j] = s := ⟨_, rfl⟩
  rw [hsi] at oi p2
  rw [hsj] at oj q1
  have HSI : Hid (_) := hsi
  have HSJ : Hid (_) := hsj
  clear hsi hsj
  go_wp2
  go_quiet (fail)
  go_wp2
  go_ret3
  exact ⟨by rw [HSI.out, HSJ.out] <;> rfl, K5.trans (Pk.Drawn.below _ ⟨_, rfl⟩)⟩

end Tn
end Go.Proofs.Ytbjojljmgcnpnan
