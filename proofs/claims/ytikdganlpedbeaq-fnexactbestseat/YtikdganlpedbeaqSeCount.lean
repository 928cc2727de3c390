/- The program's freeSeats; FreeCount and FreeSeat of the program and of the model. -/
import Derived.Test.YtikdganlpedbeaqSeAll
namespace Go.Proofs.Ytikdganlpedbeaq
namespace Se
open Go.ChangeShapes Go.WideShapes Go.ChangeAt Go.RowKit
open Tn (Hd St trV trB Stops runsB okB)
open Pk (new_below join_below cell_at heap_new frozen_at lt_of kept heap_old Drawn info_of own_form own_below Room)
set_option linter.unusedSimpArgs false
set_option linter.unusedVariables false

/-- The free seats of a train that can be asked; none of another. -/
def resL (l : List Hl) (t : Hd) (ls : List St) (day x y : Int) : List Hl := if askB t ls day x y = true then freeL l t day x y else []

theorem mem_pre {t : Hd} {day a b : Int} {n c s : Nat} {p : Hl} (h : p ∈ pre t day a b n c s) : ∃ i j : Nat, i ≤ c ∧ j < n + s ∧ p = seat t day a b i j := by
  unfold pre at h
  rw [List.mem_append, List.mem_flatMap] at h
  rcases h with ⟨i, hi, h⟩ | h
  · rw [List.mem_map] at h
    obtain ⟨j, hj, rfl⟩ := h
    rw [List.mem_range] at hi hj
    exact ⟨i, j, by omega, by omega, rfl⟩
  · rw [List.mem_map] at h
    obtain ⟨j, hj, rfl⟩ := h
    rw [List.mem_range] at hj
    exact ⟨c, j, Nat.le_refl _, by omega, rfl⟩

/-- All seats of a train that can be asked are holds whose numbers an int holds. -/
theorem all_wf {t : Hd} {ls : List St} {day x y : Int} (h : askB t ls day x y = true) : Wfs (allL t day x y) := by
  intro p hp
  unfold askB at h
  rw [Bool.and_eq_true, st_is] at h
  obtain ⟨h1, h2, h3⟩ := run_is h.1
  obtain ⟨i, j, hi, hj, rfl⟩ := mem_pre hp
  have h4 := h.2
  have h5 : i ≤ 20 := by omega
  have h6 : j < 90 := by omega
  refine ⟨wfI ?_, wfI ?_, wfI ?_, wfI ?_, wfI ?_, wfI ?_, wfI ?_⟩ <;> simp only [seat] <;> omega

theorem all_len {t : Hd} {ls : List St} {day x y : Int} (h : askB t ls day x y = true) : (allL t day x y).length ≤ 1800 := by
  unfold askB at h
  rw [Bool.and_eq_true] at h
  obtain ⟨h1, h2, h3, -⟩ := run_is h.1
  unfold allL
  rw [pre_len]
  have : t.co.toNat * t.se.toNat ≤ 20 * 90 := Nat.mul_le_mul (by omega) (by omega)
  omega

theorem res_len (l : List Hl) (t : Hd) (ls : List St) (day x y : Int) : (resL l t ls day x y).length ≤ 1800 := by
  unfold resL
  split
  · rename_i h
    exact Nat.le_trans (List.length_filter_le _ _) (all_len h)
  · simp

theorem filter_grp (l : List Hl) (s : List Hl) : (s.filter fun p => freeB (grp l (key p)) p) = s.filter (freeB l) := by
  congr 1
  funext p
  exact free_grp l p

set_option maxRecDepth 100000 in
set_option maxHeartbeats 4000000 in
theorem freeSeats_val (B b : Nat) (es : Array MapEntry) (clock : Nat) (l : List Hl) (t : Hd) (ta : Option Addr) (ls : List St) (tc : Nat) (day x y : Int) (w : World) (hl : l.length ≤ maxLen) (hls : ls.length ≤ maxLen) (M : Mp B b (grp l) es clock w) (J : Stops w ta ls) :
    Calls Try.prog 30 #[.map (some b), trV t ta ls.length tc, .int .i64 day, .int .i64 x, .int .i64 y] w fun e w' => (∃ v, e = .returned (.tuple #[v, .bool (askB t ls day x y)]) ∧ w'.ownsRow w.heap.size 43 7 v (resL l t ls day x y).length (hcells (resL l t ls day x y))) ∧ Below w.heap.size w w' := by
  have N := new_below w (trB t ta ls.length tc 34)
  have HB : Hid (Tbx (w.alloc (trB t ta ls.length tc 34)) w.heap.size t ta ls.length tc) := Tbx.of (heap_new _ _)
  have hb0 : w.heap.size < (w.alloc (trB t ta ls.length tc 34)).heap.size := by simp
  have HR : Hid (∀ _ : Unit, _) := fun _ => Tn.implRuns_val t day ta ls tc _ hls (J.on N)
  have HS : Hid (∀ w, _) := fun w => stretch_val x y ls.length w
  have hlm : ls.length ≤ 9223372036854775807 := by unfold maxLen at hls; omega
  clear hls
  by_cases h0 : runsB t ls day = true
  · rw [h0] at HR
    by_cases h1 : stB x y ls.length = true
    · rw [h1] at HS
      have ha : askB t ls day x y = true := by unfold askB; rw [h0, h1]; rfl
      obtain ⟨i1, i2, i3, i4, i5⟩ := run_is h0
      have HV : Hid (resL l t ls day x y = freeL l t day x y) := if_pos ha
      have HA : Hid (askB t ls day x y = true) := ha
      have HW : Hid (Wfs (allL t day x y)) := all_wf ha
      have hal := all_len ha
      have HQ : Hid (∀ wx, _) := fun wx => implSeats_val t ta ls.length tc day x y t.co.toNat t.se.toNat wx (by omega) (by omega) (by omega) (by omega)
      have HKE : Hid (∀ (ca : Option Addr) (cc : Nat) wx, Below w.heap.size w wx → Holds wx ca (allL t day x y) → Calls Try.prog 38 #[.slice ca (allL t day x y).length cc, .func (.func 49) #[.map (some b)] #[]] wx fun e w' => ∃ v, e = .returned v ∧ w'.ownsRow wx.heap.size 43 7 v (freeL l t day x y).length (hcells (freeL l t day x y)) ∧ Below wx.heap.size wx w') := by
        intro ca cc wx LX IX
        have h := keep_free b (fun p => freeB (grp l (key p)) p) ca (allL t day x y) cc wx (by omega) IX (fun k hk wy LY => isFree_val B b (grp l) es clock _ wy (Wfs.take HW.out k hk) (Nat.le_trans (grp_le _ _) hl) (M.on (join_below LX LY)))
        rw [filter_grp] at h
        exact h
      clear h0 h1 ha i1 i2 i3 i4 i5 HW M
      go_enter Try.func30, Try.ntmps30
      go_wp2_with fail
      refine (HR.out ()).mono ?_
      rintro e w1 ⟨rfl, L1⟩
      obtain ⟨x0, x1, x2, x3, x4⟩ := HB.out.on L1 hb0
      go_wp2_with fail
      refine (HS.out _).mono ?_
      rintro e w2 ⟨rfl, rfl⟩
      have K1 := join_below N L1
      go_wp2_with fail
      refine (HQ.out _).mono ?_
      rintro e w3 ⟨v, rfl, O3, L3⟩
      obtain ⟨ca, cc, rfl, I3⟩ := own_holds O3
      have K3 := join_below K1 L3
      clear O3
      go_wp2_with fail
      refine (HKE.out _ _ _ K3 I3).mono ?_
      rintro e w4 ⟨v4, rfl, O4, L4⟩
      have K4 := join_below K3 L4
      have O5 : Hid (w4.ownsRow w.heap.size 43 7 v4 (resL l t ls day x y).length (hcells (resL l t ls day x y))) := by
        rw [HV.out]
        exact own_wide O4 K3.size
      clear O4
      go_wp2
      refine bodyPost_ret (results_tmp2 rfl _ _ _) rfl ?_
      exact ⟨⟨v4, by rw [HA.out] <;> rfl, O5.out⟩, K4⟩
    · have h1 : stB x y ls.length = false := Bool.eq_false_iff.2 h1
      rw [h1] at HS
      have ha : askB t ls day x y = false := by unfold askB; rw [h0, h1]; rfl
      have HV : Hid (resL l t ls day x y = []) := if_neg (by rw [ha]; simp)
      have HA : Hid (askB t ls day x y = false) := ha
      clear h0 h1 ha M
      go_enter Try.func30, Try.ntmps30
      go_wp2_with fail
      refine (HR.out ()).mono ?_
      rintro e w1 ⟨rfl, L1⟩
      obtain ⟨x0, x1, x2, x3, x4⟩ := HB.out.on L1 hb0
      go_wp2_with fail
      refine (HS.out _).mono ?_
      rintro e w2 ⟨rfl, rfl⟩
      go_wp2
      refine bodyPost_ret (results_tmp2 rfl _ _ _) rfl ?_
      exact ⟨⟨_, by rw [HA.out] <;> rfl, by rw [HV.out]; exact World.ownsRow_nil _ _ _ _⟩, join_below N L1⟩
  · have h0 : runsB t ls day = false := Bool.eq_false_iff.2 h0
    rw [h0] at HR
    have ha : askB t ls day x y = false := by unfold askB; rw [h0]; rfl
    have HV : Hid (resL l t ls day x y = []) := if_neg (by rw [ha]; simp)
    have HA : Hid (askB t ls day x y = false) := ha
    clear h0 ha M
    go_enter Try.func30, Try.ntmps30
    go_wp2_with fail
    refine (HR.out ()).mono ?_
    rintro e w1 ⟨rfl, L1⟩
    go_wp2
    refine bodyPost_ret (results_tmp2 rfl _ _ _) rfl ?_
    exact ⟨⟨_, by rw [HA.out] <;> rfl, by rw [HV.out]; exact World.ownsRow_nil _ _ _ _⟩, join_below N L1⟩

/-- What FreeCount tells. -/
def cntV (l : List Hl) (t : Hd) (ls : List St) (day x y : Int) : Int := if askB t ls day x y = true then ((resL l t ls day x y).length : Int) else -1

/-- What FreeSeat tells of the free seats. -/
def firstC (s : List Hl) : Int := match s with | [] => 0 | p :: _ => p.co
def firstS (s : List Hl) : Int := match s with | [] => 0 | p :: _ => p.se

end Se
end Go.Proofs.Ytikdganlpedbeaq
