/- (Marks from any number on.) An office that begins, marked, and held against the marks. -/
import Derived.Test.YtehmlnojjfeheaaGreatOfMarkZ
namespace Go.Proofs.YtehmlnojjfeheaaGreat
namespace Of
open Go.ChangeShapes Go.WideShapes Go.ChangeAt Go.RowKit Go.Joins
open Pk (new_below join_below cell_at heap_new frozen_at lt_of kept heap_old info_of Room)
set_option linter.unusedSimpArgs false
set_option linter.unusedVariables false

open Tn (Tr Stops Trains Nums Band)
open Tf (Ed Edges)

theorem markTrainS_nil (a : Option Addr) (c : Nat) (z : Int) (w : World) :
    Calls Tryz.prog 32 #[.slice a 0 c, .int .i64 z] w fun e w' => e = .returned (.int .i64 z) ∧ w' = w := by
  go_enter Tryz.func32, Tryz.ntmps32
  go_wp2
  go_loopw [1, 5] (fun t i wr => t = .int .i64 z ∧ i = .int .i64 0 ∧ w = wr) (fun _ _ _ => 0)
  case atStart => exact ⟨rfl, rfl, rfl⟩
  case round =>
    obtain ⟨rfl, rfl, hw⟩ := hrel
    subst hw
    go_wp2
    go_ret
    exact ⟨rfl, rfl⟩

theorem markEdgeS_nil (a : Option Addr) (c : Nat) (z : Int) (w : World) :
    Calls Tryz.prog 33 #[.slice a 0 c, .int .i64 z] w fun e w' => e = .returned (.int .i64 z) ∧ w' = w := by
  go_enter Tryz.func33, Tryz.ntmps33
  go_wp2
  go_loopw [1, 5] (fun t i wr => t = .int .i64 z ∧ i = .int .i64 0 ∧ w = wr) (fun _ _ _ => 0)
  case atStart => exact ⟨rfl, rfl, rfl⟩
  case round =>
    obtain ⟨rfl, rfl, hw⟩ := hrel
    subst hw
    go_wp2
    go_ret
    exact ⟨rfl, rfl⟩

theorem markHoldS_nil (a : Option Addr) (c : Nat) (z : Int) (w : World) :
    Calls Tryz.prog 34 #[.slice a 0 c, .int .i64 z] w fun e w' => e = .returned (.int .i64 z) ∧ w' = w := by
  go_enter Tryz.func34, Tryz.ntmps34
  go_wp2
  go_loopw [1, 5] (fun t i wr => t = .int .i64 z ∧ i = .int .i64 0 ∧ w = wr) (fun _ _ _ => 0)
  case atStart => exact ⟨rfl, rfl, rfl⟩
  case round =>
    obtain ⟨rfl, rfl, hw⟩ := hrel
    subst hw
    go_wp2
    go_ret
    exact ⟨rfl, rfl⟩

theorem markOrderS_nil (a : Option Addr) (c : Nat) (z : Int) (w : World) :
    Calls Tryz.prog 35 #[.slice a 0 c, .int .i64 z] w fun e w' => e = .returned (.int .i64 z) ∧ w' = w := by
  go_enter Tryz.func35, Tryz.ntmps35
  go_wp2
  go_loopw [1, 5] (fun t i wr => t = .int .i64 z ∧ i = .int .i64 0 ∧ w = wr) (fun _ _ _ => 0)
  case atStart => exact ⟨rfl, rfl, rfl⟩
  case round =>
    obtain ⟨rfl, rfl, hw⟩ := hrel
    subst hw
    go_wp2
    go_ret
    exact ⟨rfl, rfl⟩

theorem markReplyS_nil (a : Option Addr) (c : Nat) (z : Int) (w : World) :
    Calls Tryz.prog 36 #[.slice a 0 c, .int .i64 z] w fun e w' => e = .returned (.int .i64 z) ∧ w' = w := by
  go_enter Tryz.func36, Tryz.ntmps36
  go_wp2
  go_loopw [1, 5] (fun t i wr => t = .int .i64 z ∧ i = .int .i64 0 ∧ w = wr) (fun _ _ _ => 0)
  case atStart => exact ⟨rfl, rfl, rfl⟩
  case round =>
    obtain ⟨rfl, rfl, hw⟩ := hrel
    subst hw
    go_wp2
    go_ret
    exact ⟨rfl, rfl⟩

theorem heldTrainS_nil (a : Option Addr) (c : Nat) (z : Int) (w : World) :
    Calls Tryz.prog 66 #[.slice a 0 c, .int .i64 z] w fun e w' => e = .returned (.int .i64 z) ∧ w' = w := by
  go_enter Tryz.func66, Tryz.ntmps66
  go_wp2
  go_loopw [1, 5] (fun t i wr => t = .int .i64 z ∧ i = .int .i64 0 ∧ w = wr) (fun _ _ _ => 0)
  case atStart => exact ⟨rfl, rfl, rfl⟩
  case round =>
    obtain ⟨rfl, rfl, hw⟩ := hrel
    subst hw
    go_wp2
    go_ret
    exact ⟨rfl, rfl⟩

theorem heldEdgeS_nil (a : Option Addr) (c : Nat) (z : Int) (w : World) :
    Calls Tryz.prog 67 #[.slice a 0 c, .int .i64 z] w fun e w' => e = .returned (.int .i64 z) ∧ w' = w := by
  go_enter Tryz.func67, Tryz.ntmps67
  go_wp2
  go_loopw [1, 5] (fun t i wr => t = .int .i64 z ∧ i = .int .i64 0 ∧ w = wr) (fun _ _ _ => 0)
  case atStart => exact ⟨rfl, rfl, rfl⟩
  case round =>
    obtain ⟨rfl, rfl, hw⟩ := hrel
    subst hw
    go_wp2
    go_ret
    exact ⟨rfl, rfl⟩

theorem heldHoldS_nil (a : Option Addr) (c : Nat) (z : Int) (w : World) :
    Calls Tryz.prog 68 #[.slice a 0 c, .int .i64 z] w fun e w' => e = .returned (.int .i64 z) ∧ w' = w := by
  go_enter Tryz.func68, Tryz.ntmps68
  go_wp2
  go_loopw [1, 5] (fun t i wr => t = .int .i64 z ∧ i = .int .i64 0 ∧ w = wr) (fun _ _ _ => 0)
  case atStart => exact ⟨rfl, rfl, rfl⟩
  case round =>
    obtain ⟨rfl, rfl, hw⟩ := hrel
    subst hw
    go_wp2
    go_ret
    exact ⟨rfl, rfl⟩

theorem heldOrderS_nil (a : Option Addr) (c : Nat) (z : Int) (w : World) :
    Calls Tryz.prog 69 #[.slice a 0 c, .int .i64 z] w fun e w' => e = .returned (.int .i64 z) ∧ w' = w := by
  go_enter Tryz.func69, Tryz.ntmps69
  go_wp2
  go_loopw [1, 5] (fun t i wr => t = .int .i64 z ∧ i = .int .i64 0 ∧ w = wr) (fun _ _ _ => 0)
  case atStart => exact ⟨rfl, rfl, rfl⟩
  case round =>
    obtain ⟨rfl, rfl, hw⟩ := hrel
    subst hw
    go_wp2
    go_ret
    exact ⟨rfl, rfl⟩

theorem heldReplyS_nil (a : Option Addr) (c : Nat) (z : Int) (w : World) :
    Calls Tryz.prog 70 #[.slice a 0 c, .int .i64 z] w fun e w' => e = .returned (.int .i64 z) ∧ w' = w := by
  go_enter Tryz.func70, Tryz.ntmps70
  go_wp2
  go_loopw [1, 5] (fun t i wr => t = .int .i64 z ∧ i = .int .i64 0 ∧ w = wr) (fun _ _ _ => 0)
  case atStart => exact ⟨rfl, rfl, rfl⟩
  case round =>
    obtain ⟨rfl, rfl, hw⟩ := hrel
    subst hw
    go_wp2
    go_ret
    exact ⟨rfl, rfl⟩

/-- Trains that bear their marks, their blocks from lo up to mid. -/
def LT (z0 : Int) (w : World) (lo mid : Nat) (a : Option Addr) (gf cf : Nat → Nat) (ts : List Tr) : Prop := ts.length = 0 ∨ ∃ g, a = some ⟨g, 0, none⟩ ∧ lo ≤ g ∧ g < mid ∧ mid ≤ w.heap.size ∧ Mc w lo mid g gf cf ts ∧ MT z0 w g gf ts ts.length

/-- Edges that bear their marks. -/
def ET (w : World) (lo : Nat) (a : Option Addr) (es : List Ed) (z : Int) : Prop := es.length = 0 ∨ ∃ g, a = some ⟨g, 0, none⟩ ∧ lo ≤ g ∧ g < w.heap.size ∧ MarkedE w g es.length z

theorem off_nil {z0 : Int} {ts : List Tr} (h : ts.length = 0) : off z0 ts ts.length = z0 := by rw [h]; rfl

theorem markT_any (z0 : Int) (hz1 : 0 ≤ z0) (hz2 : z0 ≤ 1152921504606840000) {w : World} {lo mid : Nat} {a : Option Addr} {gf cf : Nat → Nat} {ts : List Tr} (c : Nat) (hn : ts.length ≤ 40) (hs : ∀ i (h : i < ts.length), ts[i].l.length ≤ 20) (h : Lm w lo mid a gf cf ts) :
    Calls Tryz.prog 32 #[.slice a ts.length c, .int .i64 z0] w fun e w' => e = .returned (.int .i64 (off z0 ts ts.length)) ∧ Band lo mid w w' ∧ LT z0 w' lo mid a gf cf ts := by
  rcases h with h0 | ⟨g, rfl, h1, h2, h3, h4, h5⟩
  · have e1 := off_nil (z0 := z0) h0
    rw [e1, h0]
    refine (markTrainS_nil a c z0 w).mono ?_
    rintro e w' ⟨rfl, rfl⟩
    exact ⟨rfl, Band.refl _ _ _, Or.inl h0⟩
  · refine (markTrainS_own z0 hz1 hz2 lo mid g gf cf ts c w hn hs h1 h2 (Mc.of h4 h5)).mono ?_
    rintro e w' ⟨rfl, B, T, M⟩
    exact ⟨rfl, B, Or.inr ⟨g, rfl, h1, h2, by rw [B.size]; exact h3, M, T⟩⟩

theorem heldT_any (z0 : Int) (hz1 : 0 ≤ z0) (hz2 : z0 ≤ 1152921504606840000) {w : World} {lo mid : Nat} {a : Option Addr} {gf cf : Nat → Nat} {ts : List Tr} (c : Nat) (hn : ts.length ≤ 40) (hs : ∀ i (h : i < ts.length), ts[i].l.length ≤ 20) (h : LT z0 w lo mid a gf cf ts) :
    Calls Tryz.prog 66 #[.slice a ts.length c, .int .i64 z0] w fun e w' => e = .returned (.int .i64 (off z0 ts ts.length)) ∧ w' = w := by
  rcases h with h0 | ⟨g, rfl, h1, h2, h3, h4, h5⟩
  · have e1 := off_nil (z0 := z0) h0
    rw [e1, h0]
    exact heldTrainS_nil a c z0 w
  · exact heldTrainS_own z0 hz1 hz2 lo mid g gf cf ts c w hn hs h4 h5

theorem markE_any {w : World} {lo : Nat} {a : Option Addr} {es : List Ed} (c : Nat) (z : Int) (hn : es.length ≤ 1048576) (hz : 0 ≤ z) (hz2 : z ≤ 1152921504606846976) (hi : Nat) (hh : ∀ g, a = some ⟨g, 0, none⟩ → es.length ≠ 0 → g < hi) (h : Et w lo a es) :
    Calls Tryz.prog 33 #[.slice a es.length c, .int .i64 z] w fun e w' => e = .returned (.int .i64 (z + 3 * (es.length : Int))) ∧ Band lo hi w w' ∧ ET w' lo a es z := by
  rcases h with h0 | ⟨g, rfl, h1, h2, h3, h4⟩
  · have e1 : z + 3 * (es.length : Int) = z := by omega
    rw [e1, h0]
    refine (markEdgeS_nil a c z w).mono ?_
    rintro e w' ⟨rfl, rfl⟩
    exact ⟨rfl, Band.refl _ _ _, Or.inl h0⟩
  · by_cases h0 : es.length = 0
    · have e1 : z + 3 * (es.length : Int) = z := by omega
      rw [e1, h0]
      refine (markEdgeS_nil _ c z w).mono ?_
      rintro e w' ⟨rfl, rfl⟩
      exact ⟨rfl, Band.refl _ _ _, Or.inl h0⟩
    · refine (markEdgeS_val (some ⟨g, 0, none⟩) g es.length c z w hn hz hz2 (Or.inr ⟨rfl, h4⟩)).mono ?_
      rintro e w' ⟨rfl, B, M, -⟩
      have := hh g rfl h0
      exact ⟨rfl, B.wide h1 (by omega), Or.inr ⟨g, rfl, h1, by rw [B.size]; exact h2, M⟩⟩

theorem heldE_any {w : World} {lo : Nat} {a : Option Addr} {es : List Ed} (c : Nat) (z : Int) (hn : es.length ≤ 1048576) (hz : 0 ≤ z) (hz2 : z ≤ 1152921504606846976) (h : ET w lo a es z) :
    Calls Tryz.prog 67 #[.slice a es.length c, .int .i64 z] w fun e w' => e = .returned (.int .i64 (z + 3 * (es.length : Int))) ∧ w' = w := by
  rcases h with h0 | ⟨g, rfl, h1, h2, h3⟩
  · have e1 : z + 3 * (es.length : Int) = z := by omega
    rw [e1, h0]
    exact heldEdgeS_nil a c z w
  · exact heldEdgeS_val (some ⟨g, 0, none⟩) g es.length c z w hn hz hz2 (Or.inr rfl) h3

theorem Mc.away {w w1 : World} {lo hi g : Nat} {gf cf : Nat → Nat} {ts : List Tr} (h : Mc w lo hi g gf cf ts) (hg : lo ≤ g ∧ g < hi) (hc : ∀ p : Addr, lo ≤ p.block → p.block < hi → w1.cell? p = w.cell? p ∧ w1.frozen? p = w.frozen? p) : Mc w1 lo hi g gf cf ts := by
  refine ⟨fun j hj => ?_, fun i hi => ?_, h.apart⟩
  · rw [(hc ⟨g, j, none⟩ hg.1 hg.2).1, (hc ⟨g, j, none⟩ hg.1 hg.2).2]
    exact h.room j hj
  · obtain ⟨q1, q2, q3, q4, q5⟩ := h.each i hi
    refine ⟨q1, q2, q3, by rw [(hc ⟨g, i * 5 + 4, none⟩ hg.1 hg.2).1]; exact q4, fun j hj => ?_⟩
    rw [(hc ⟨gf i, j, none⟩ q1 q2).1, (hc ⟨gf i, j, none⟩ q1 q2).2]
    exact q5 j hj

theorem LT.away {z0 : Int} {w w1 : World} {lo mid : Nat} {a : Option Addr} {gf cf : Nat → Nat} {ts : List Tr} (h : LT z0 w lo mid a gf cf ts) (hsz : w.heap.size ≤ w1.heap.size) (hc : ∀ p : Addr, lo ≤ p.block → p.block < mid → w1.cell? p = w.cell? p ∧ w1.frozen? p = w.frozen? p) : LT z0 w1 lo mid a gf cf ts := by
  rcases h with h0 | ⟨g, h0, h1, h2, h3, h4, h5⟩
  · exact Or.inl h0
  · refine Or.inr ⟨g, h0, h1, h2, by omega, h4.away ⟨h1, h2⟩ hc, h5.away fun b i hb => ?_⟩
    rcases hb with rfl | ⟨j, hj, rfl⟩
    · exact (hc ⟨b, i, none⟩ h1 h2).1
    · obtain ⟨q1, q2, -⟩ := h4.each j hj
      exact (hc ⟨gf j, i, none⟩ q1 q2).1

theorem LT.on {z0 : Int} {w w1 : World} {lo mid : Nat} {a : Option Addr} {gf cf : Nat → Nat} {ts : List Tr} (h : LT z0 w lo mid a gf cf ts) (L : Below w.heap.size w w1) : LT z0 w1 lo mid a gf cf ts := by
  rcases h with h0 | ⟨g, h0, h1, h2, h3, h4, h5⟩
  · exact Or.inl h0
  · exact LT.away (Or.inr ⟨g, h0, h1, h2, h3, h4, h5⟩) L.size fun p _ hp => ⟨L.cell (by omega), L.frozen (by omega)⟩

theorem ET.on {w w1 : World} {lo : Nat} {a : Option Addr} {es : List Ed} {z : Int} (h : ET w lo a es z) (L : Below w.heap.size w w1) : ET w1 lo a es z := by
  rcases h with h0 | ⟨g, h0, h1, h2, h3⟩
  · exact Or.inl h0
  · exact Or.inr ⟨g, h0, h1, Nat.lt_of_lt_of_le h2 L.size, h3.on L h2⟩

theorem Et.band {w w1 : World} {lo mid : Nat} {a : Option Addr} {es : List Ed} (h : Et w mid a es) (B : Band lo mid w w1) : Et w1 mid a es := by
  rcases h with h0 | ⟨g, h0, h1, h2, h3, h4⟩
  · exact Or.inl h0
  · have hc : ∀ i, w1.cell? ⟨g, i, none⟩ = w.cell? ⟨g, i, none⟩ := fun i => World.cell?_of_block (B.block g (Or.inr h1))
    have hf : ∀ i, w1.frozen? ⟨g, i, none⟩ = w.frozen? ⟨g, i, none⟩ := fun i => World.frozen?_of_block (B.block g (Or.inr h1))
    refine Or.inr ⟨g, h0, h1, by rw [B.size]; exact h2, ?_, fun j hj => by rw [hc j, hf j]; exact h4 j hj⟩
    rcases h3 with h3 | ⟨b, o, e, hb, hcc⟩
    · exact Or.inl h3
    · simp only [Option.some.injEq, Addr.mk.injEq, and_true] at e
      obtain ⟨rfl, rfl⟩ := e
      refine Or.inr ⟨g, 0, rfl, by rw [B.size]; exact hb, fun i hi => ?_⟩
      rw [hc, hc, hc]
      exact hcc i hi

/-- What an office that begins holds, marked. -/
def OM (z0 : Int) (w : World) (lo hi : Nat) (a2 a3 : Option Addr) (ts : List Tr) (es : List Ed) : Prop := ∃ mid gf cf, lo ≤ mid ∧ mid ≤ hi ∧ (∀ g, a3 = some ⟨g, 0, none⟩ → es.length ≠ 0 → g < hi) ∧ LT z0 w lo mid a2 gf cf ts ∧ ET w mid a3 es (off z0 ts ts.length)

theorem OM.on {z0 : Int} {w w1 : World} {lo hi : Nat} {a2 a3 : Option Addr} {ts : List Tr} {es : List Ed} (h : OM z0 w lo hi a2 a3 ts es) (L : Below w.heap.size w w1) : OM z0 w1 lo hi a2 a3 ts es := by
  obtain ⟨mid, gf, cf, h1, h4, h5, h2, h3⟩ := h
  exact ⟨mid, gf, cf, h1, h4, h5, h2.on L, h3.on L⟩

theorem St.mid {w : World} {lo : Nat} {a2 a3 : Option Addr} {ts : List Tr} {es : List Ed} (h : St w lo a2 a3 ts es) (hlo : lo ≤ w.heap.size) : ∃ mid gf cf, lo ≤ mid ∧ mid ≤ w.heap.size ∧ Lm w lo mid a2 gf cf ts ∧ Et w mid a3 es := by
  obtain ⟨mid, gf, cf, hlm, T, E⟩ := h
  by_cases hmid : mid ≤ w.heap.size
  · exact ⟨mid, gf, cf, hlm, hmid, T, E⟩
  · refine ⟨lo, gf, cf, Nat.le_refl _, hlo, Or.inl ?_, Or.inl ?_⟩
    · apply Classical.byContradiction
      intro h0
      obtain ⟨g', -, -, -, h3, -⟩ := T.resolve_left h0
      omega
    · apply Classical.byContradiction
      intro h0
      obtain ⟨g', -, h1, h2, -⟩ := E.resolve_left h0
      omega

set_option maxRecDepth 100000 in
set_option maxHeartbeats 4000000 in
theorem markOffice_val (z0 : Int) (hz1 : 0 ≤ z0) (hz2 : z0 ≤ 1152921504606800000) (lo : Nat) (a2 a3 : Option Addr) (ts : List Tr) (es : List Ed) (c2 c3 : Nat) (td : Int) (w : World) (hn : ts.length ≤ 40) (hs : ∀ i (h : i < ts.length), ts[i].l.length ≤ 20) (hm : es.length ≤ 1048576) (mid hi : Nat) (gf cf : Nat → Nat) (hlm : lo ≤ mid) (hmh : mid ≤ hi) (hhi : hi ≤ w.heap.size) (hEh : ∀ g, a3 = some ⟨g, 0, none⟩ → es.length ≠ 0 → g < hi) (T : Lm w lo mid a2 gf cf ts) (E : Et w mid a3 es) :
    Calls Tryz.prog 10 #[.agg #[.slice a2 ts.length c2, .slice a3 es.length c3, .slice none 0 0, .slice none 0 0, .slice none 0 0, .int .i64 td], .int .i64 z0] w fun e w' => e = .returned (.int .i64 (off z0 ts ts.length + 3 * (es.length : Int))) ∧ OM z0 w' lo hi a2 a3 ts es ∧ ∃ W, Below w.heap.size w W ∧ Band lo hi W w' := by
  have hmid : mid ≤ w.heap.size := Nat.le_trans hmh hhi
  have HEH : Hid (∀ g, a3 = some ⟨g, 0, none⟩ → es.length ≠ 0 → g < hi) := hEh
  have hob := off_bd z0 ts hs ts.length (Nat.le_refl _)
  have N := new_below w (.cells #[.slice a2 ts.length c2, .slice a3 es.length c3, .slice none 0 0, .slice none 0 0, .slice none 0 0, .int .i64 td] 36)
  have m0 := heap_new w (.cells #[.slice a2 ts.length c2, .slice a3 es.length c3, .slice none 0 0, .slice none 0 0, .slice none 0 0, .int .i64 td] 36)
  have HT : Hid (∀ _ : Unit, _) := fun _ => markT_any z0 hz1 (by omega) c2 hn hs (T.on N)
  have E1 := E.on N
  · have HE : Hid (∀ w1, Band lo mid (w.alloc (.cells #[.slice a2 ts.length c2, .slice a3 es.length c3, .slice none 0 0, .slice none 0 0, .slice none 0 0, .int .i64 td] 36)) w1 → _) := fun w1 (B : Band lo mid (w.alloc (.cells #[.slice a2 ts.length c2, .slice a3 es.length c3, .slice none 0 0, .slice none 0 0, .slice none 0 0, .int .i64 td] 36)) w1) => markE_any (w := w1) c3 (off z0 ts ts.length) hm (by omega) (by omega) hi hEh (E1.band B)
    clear T E E1 hs
    generalize hz : off z0 ts ts.length = z at *
    have HZ : Hid (off z0 ts ts.length = z) := hz
    clear hz
    go_enter Tryz.func10, Tryz.ntmps10
    go_wp2_with fail
    refine (HT.out ()).mono ?_
    generalize w.alloc (.cells #[.slice a2 ts.length c2, .slice a3 es.length c3, .slice none 0 0, .slice none 0 0, .slice none 0 0, .int .i64 td] 36) = W at *
    rintro e w1 ⟨rfl, B1, T1⟩
    have m1 : w1.heap[w.heap.size]? = some (.cells #[.slice a2 ts.length c2, .slice a3 es.length c3, .slice none 0 0, .slice none 0 0, .slice none 0 0, .int .i64 td] 36) := (B1.block _ (Or.inr hmid)).trans m0
    have k1 : w1.cell? ⟨w.heap.size, 1, none⟩ = some (.slice a3 es.length c3) := cell_at m1 1
    go_wp2_with fail
    refine (HE.out w1 B1).mono ?_
    rintro e w2 ⟨rfl, B2, T2⟩
    have m2 : w2.heap[w.heap.size]? = some (.cells #[.slice a2 ts.length c2, .slice a3 es.length c3, .slice none 0 0, .slice none 0 0, .slice none 0 0, .int .i64 td] 36) := (B2.block _ (Or.inr hhi)).trans m1
    have T3 : LT z0 w2 lo mid a2 gf cf ts := T1.away (Nat.le_of_eq B2.size.symm) fun p _ hp => ⟨World.cell?_of_block (B2.block _ (Or.inl hp)), World.frozen?_of_block (B2.block _ (Or.inl hp))⟩
    have LB : ∃ W', Below w.heap.size w W' ∧ Band lo hi W' w2 := ⟨W, N, (B1.wide (Nat.le_refl _) hmh).trans (B2.wide hlm (Nat.le_refl _))⟩
    clear k1 HT HE m1 B1 B2 T1 N m0
    have k2 : w2.cell? ⟨w.heap.size, 2, none⟩ = some (.slice none 0 0) := cell_at m2 2
    have k3 : w2.cell? ⟨w.heap.size, 3, none⟩ = some (.slice none 0 0) := cell_at m2 3
    have k4 : w2.cell? ⟨w.heap.size, 4, none⟩ = some (.slice none 0 0) := cell_at m2 4
    go_wp2_with fail
    refine (markHoldS_nil _ _ _ _).mono ?_
    rintro e x3 ⟨rfl, hx3⟩
    have hy3 := hx3.symm
    clear hx3
    subst hy3
    go_wp2_with fail
    refine (markOrderS_nil _ _ _ _).mono ?_
    rintro e x4 ⟨rfl, hx4⟩
    have hy4 := hx4.symm
    clear hx4
    subst hy4
    go_wp2_with fail
    refine (markReplyS_nil _ _ _ _).mono ?_
    rintro e x5 ⟨rfl, hx5⟩
    have hy5 := hx5.symm
    clear hx5
    subst hy5
    go_wp2
    go_ret
    exact ⟨rfl, ⟨mid, gf, cf, hlm, hmh, HEH.out, T3, by rw [HZ.out]; exact T2⟩, LB⟩

set_option maxRecDepth 100000 in
set_option maxHeartbeats 4000000 in
theorem heldOffice_val (z0 : Int) (hz1 : 0 ≤ z0) (hz2 : z0 ≤ 1152921504606800000) (lo hi : Nat) (a2 a3 : Option Addr) (ts : List Tr) (es : List Ed) (c2 c3 : Nat) (td : Int) (w : World) (hn : ts.length ≤ 40) (hs : ∀ i (h : i < ts.length), ts[i].l.length ≤ 20) (hm : es.length ≤ 1048576) (h : OM z0 w lo hi a2 a3 ts es) :
    Calls Tryz.prog 37 #[.agg #[.slice a2 ts.length c2, .slice a3 es.length c3, .slice none 0 0, .slice none 0 0, .slice none 0 0, .int .i64 td], .int .i64 z0] w fun e w' => e = .returned (.int .i64 (off z0 ts ts.length + 3 * (es.length : Int))) ∧ Below w.heap.size w w' := by
  obtain ⟨mid, gf, cf, hlm, -, -, T, E⟩ := h
  have hob := off_bd z0 ts hs ts.length (Nat.le_refl _)
  have N := new_below w (.cells #[.slice a2 ts.length c2, .slice a3 es.length c3, .slice none 0 0, .slice none 0 0, .slice none 0 0, .int .i64 td] 36)
  have m0 := heap_new w (.cells #[.slice a2 ts.length c2, .slice a3 es.length c3, .slice none 0 0, .slice none 0 0, .slice none 0 0, .int .i64 td] 36)
  have HT : Hid (∀ _ : Unit, _) := fun _ => heldT_any z0 hz1 (by omega) c2 hn hs (T.on N)
  have HE : Hid (∀ _ : Unit, _) := fun _ => heldE_any c3 (off z0 ts ts.length) hm (by omega) (by omega) (E.on N)
  have hd1 : decide (off z0 ts ts.length < 0) = false := decide_eq_false (by omega)
  have hd2 : decide (off z0 ts ts.length + 3 * (es.length : Int) < 0) = false := decide_eq_false (by omega)
  clear T E hs
  generalize off z0 ts ts.length = z at *
  have k0 : (w.alloc (.cells #[.slice a2 ts.length c2, .slice a3 es.length c3, .slice none 0 0, .slice none 0 0, .slice none 0 0, .int .i64 td] 36)).cell? ⟨w.heap.size, 0, none⟩ = some (.slice a2 ts.length c2) := cell_at m0 0
  have k1 : (w.alloc (.cells #[.slice a2 ts.length c2, .slice a3 es.length c3, .slice none 0 0, .slice none 0 0, .slice none 0 0, .int .i64 td] 36)).cell? ⟨w.heap.size, 1, none⟩ = some (.slice a3 es.length c3) := cell_at m0 1
  have k2 : (w.alloc (.cells #[.slice a2 ts.length c2, .slice a3 es.length c3, .slice none 0 0, .slice none 0 0, .slice none 0 0, .int .i64 td] 36)).cell? ⟨w.heap.size, 2, none⟩ = some (.slice none 0 0) := cell_at m0 2
  have k3 : (w.alloc (.cells #[.slice a2 ts.length c2, .slice a3 es.length c3, .slice none 0 0, .slice none 0 0, .slice none 0 0, .int .i64 td] 36)).cell? ⟨w.heap.size, 3, none⟩ = some (.slice none 0 0) := cell_at m0 3
  have k4 : (w.alloc (.cells #[.slice a2 ts.length c2, .slice a3 es.length c3, .slice none 0 0, .slice none 0 0, .slice none 0 0, .int .i64 td] 36)).cell? ⟨w.heap.size, 4, none⟩ = some (.slice none 0 0) := cell_at m0 4
  have k5 : (w.alloc (.cells #[.slice a2 ts.length c2, .slice a3 es.length c3, .slice none 0 0, .slice none 0 0, .slice none 0 0, .int .i64 td] 36)).cell? ⟨w.heap.size, 5, none⟩ = some (.int .i64 td) := cell_at m0 5
  go_enter Tryz.func37, Tryz.ntmps37
  go_wp2_with fail
  refine (HT.out ()).mono ?_
  generalize w.alloc (.cells #[.slice a2 ts.length c2, .slice a3 es.length c3, .slice none 0 0, .slice none 0 0, .slice none 0 0, .int .i64 td] 36) = W at *
  rintro e x1 ⟨rfl, hx1⟩
  have hy1 := hx1.symm
  clear hx1
  subst hy1
  go_wp2_with fail
  refine (HE.out ()).mono ?_
  rintro e x2 ⟨rfl, hx2⟩
  have hy2 := hx2.symm
  clear hx2
  subst hy2
  go_wp2_with fail
  refine (heldHoldS_nil _ _ _ _).mono ?_
  rintro e n0 ⟨rfl, hn0⟩
  have hq0 := hn0.symm
  clear hn0
  subst hq0
  go_wp2_with fail
  refine (heldOrderS_nil _ _ _ _).mono ?_
  rintro e n1 ⟨rfl, hn1⟩
  have hq1 := hn1.symm
  clear hn1
  subst hq1
  go_wp2_with fail
  refine (heldReplyS_nil _ _ _ _).mono ?_
  rintro e n2 ⟨rfl, hn2⟩
  have hq2 := hn2.symm
  clear hn2
  subst hq2
  go_wp2
  go_ret
  exact ⟨rfl, N⟩

/-- Marks stay where other blocks are written. -/
theorem OM.band {z0 : Int} {w w1 : World} {lo hi p q : Nat} {a2 a3 : Option Addr} {ts : List Tr} {es : List Ed} (h : OM z0 w lo hi a2 a3 ts es) (B : Band p q w w1) (hp : hi ≤ p) : OM z0 w1 lo hi a2 a3 ts es := by
  obtain ⟨mid, gf, cf, h1, h4, h5, h2, h3⟩ := h
  refine ⟨mid, gf, cf, h1, h4, h5, h2.away (by rw [B.size]; exact Nat.le_refl _) (fun x _ hx => ?_), ?_⟩
  · have hb := B.block x.block (Or.inl (by omega))
    exact ⟨World.cell?_of_block hb, World.frozen?_of_block hb⟩
  · rcases h3 with h3 | ⟨g, e, g1, g2, M⟩
    · exact Or.inl h3
    · by_cases h0 : es.length = 0
      · exact Or.inl h0
      · have hg := h5 g e h0
        refine Or.inr ⟨g, e, g1, by rw [B.size]; exact g2, fun i hi' => ?_⟩
        have hb := B.block g (Or.inl (by omega))
        rw [World.cell?_of_block (a := ⟨g, i * 3, none⟩) hb, World.cell?_of_block (a := ⟨g, i * 3 + 1, none⟩) hb, World.cell?_of_block (a := ⟨g, i * 3 + 2, none⟩) hb]
        exact M i hi'

end Of
end Go.Proofs.YtehmlnojjfeheaaGreat
