/- Contract of OfficeStart of the model. -/
import Derived.Test.YtmoinacceildcaaGreatDoorOfStart
import Derived.Test.YtmoinacceildcaaGreatDoorTnFind
namespace Go.Proofs.YtmoinacceildcaaGreatDoor
namespace Of
open Go.ChangeShapes Go.WideShapes Go.ChangeAt Go.RowKit Go.Joins
open Pk (new_below join_below cell_at heap_new frozen_at lt_of kept heap_old info_of Room)
set_option linter.unusedSimpArgs false
set_option linter.unusedVariables false

open Tn (Tr Stops Trains Nums scells)
open Tf (Ed Edges)
open Se (inB in_is in_not)

/-- A train's cells. -/
def tc1 (t : Tn.Hd) (v : Value) : List Value := [.int .i64 t.id, .int .i64 t.dy, .int .i64 t.co, .int .i64 t.se, v]

/-- The cells of the first k trains, whose stops are the slices ps. -/
structure Xs (xs : List Value) (k : Nat) (ts : List Tr) (ps : Nat → Value) : Prop where
  len : xs.length = k * 5
  at_ : ∀ i (h : i < ts.length), i < k → ∀ r, r < 5 → xs[i * 5 + r]? = (tc1 ts[i].h (ps i))[r]?

theorem Xs.snoc {xs : List Value} {k : Nat} {ts : List Tr} {ps : Nat → Value} (h : Xs xs k ts ps) (hk : k < ts.length) (v : Value) : Xs (xs ++ tc1 ts[k].h v) (k + 1) ts (fun i => if i = k then v else ps i) := by
  refine ⟨by rw [List.length_append, h.len]; simp [tc1]; omega, fun i hi hik r hr => ?_⟩
  by_cases e : i = k
  · subst e
    simp only [if_true]
    rw [List.getElem?_append_right (by rw [h.len]; omega), h.len]
    congr 1
    omega
  · simp only [if_neg e]
    rw [List.getElem?_append_left (by rw [h.len]; omega)]
    exact h.at_ i hi (by omega) r hr

theorem own_grown {w w1 : World} {base e size : Nat} {v : Value} {n : Nat} {xs : List Value} {row : Option Nat} (h : w.ownsRow base e size v n xs) (hg : w.grownBy w1 row) (hne : ∀ g cs f, w.heap[g]? = some (.cells cs e f) → some g ≠ row) : w1.ownsRow base e size v n xs := by
  obtain ⟨h1, h2⟩ := h
  refine ⟨h1, ?_⟩
  rcases h2 with h2 | ⟨g, cap, cur, hv, hg', hh, hr⟩
  · exact Or.inl h2
  · exact Or.inr ⟨g, cap, cur, hv, hg', (hg.block g (lt_of hh) (hne g _ _ hh)).trans hh, hr⟩

/-- The stops of the first k trains, in rows of their own. -/
def Rows5 (w : World) (base k : Nat) (ts : List Tr) (ps : Nat → Value) : Prop := ∀ i (h : i < ts.length), i < k → (∃ a c, ps i = .slice a ts[i].l.length c) ∧ w.ownsRow base 47 3 (ps i) ts[i].l.length (scells ts[i].l)

/-- Trains, all of whose blocks lie from lo on. -/
def Lw (w : World) (lo : Nat) (a : Option Addr) (ts : List Tr) : Prop := ts.length = 0 ∨ ∃ g, a = some ⟨g, 0, none⟩ ∧ lo ≤ g ∧ g < w.heap.size ∧ ∀ i (h : i < ts.length), Nums w g (i * 5) ts[i].h ∧ ∃ gi ci, lo ≤ gi ∧ w.cell? ⟨g, i * 5 + 4, none⟩ = some (.slice (some ⟨gi, 0, none⟩) ts[i].l.length ci) ∧ Stops w (some ⟨gi, 0, none⟩) ts[i].l

theorem Lw.kp {w w1 : World} {lo : Nat} {a : Option Addr} {ts : List Tr} (h : Lw w lo a ts) (k : Kp lo w w1) : Lw w1 lo a ts := by
  rcases h with h | ⟨g, h0, h1, h2, h3⟩
  · exact Or.inl h
  · refine Or.inr ⟨g, h0, h1, Nat.lt_of_lt_of_le h2 k.1, fun i hi => ?_⟩
    obtain ⟨⟨n0, n1, n2, n3⟩, gi, ci, q1, q2, q3⟩ := h3 i hi
    exact ⟨⟨by rw [k.2 ⟨g, i * 5, none⟩ h1 h2]; exact n0, by rw [k.2 ⟨g, i * 5 + 1, none⟩ h1 h2]; exact n1, by rw [k.2 ⟨g, i * 5 + 2, none⟩ h1 h2]; exact n2, by rw [k.2 ⟨g, i * 5 + 3, none⟩ h1 h2]; exact n3⟩, gi, ci, q1, by rw [k.2 ⟨g, i * 5 + 4, none⟩ h1 h2]; exact q2, stops_kp q3 q1 k⟩

theorem Lw.trains {w : World} {lo : Nat} {a : Option Addr} {ts : List Tr} (h : Lw w lo a ts) : Trains w a ts := by
  rcases h with h | ⟨g, rfl, h1, h2, h3⟩
  · exact Or.inl (List.eq_nil_of_length_eq_zero h)
  · refine Or.inr ⟨g, 0, rfl, h2, fun i hi => ?_⟩
    obtain ⟨q, gi, ci, q1, q2, q3⟩ := h3 i hi
    rw [Nat.zero_add]
    exact ⟨q, gi, 0, ci, q2, q3⟩

theorem rows_trains {w : World} {base : Nat} {a : Option Addr} {c : Nat} {xs : List Value} {ts : List Tr} {ps : Nat → Value} (hs : ∀ i (h : i < ts.length), 1 ≤ ts[i].l.length) (O : w.ownsRow base 50 5 (.slice a ts.length c) ts.length xs) (X : Xs xs ts.length ts ps) (R : Rows5 w base ts.length ts ps) : Lw w base a ts := by
  by_cases h0 : ts.length = 0
  · exact Or.inl h0
  · obtain ⟨g, cap, hv, h1, h2, h3, h4⟩ := own_g O (by omega)
    simp only [Value.slice.injEq] at hv
    obtain ⟨rfl, -, rfl⟩ := hv
    refine Or.inr ⟨g, rfl, h1, h2, fun i hi => ?_⟩
    obtain ⟨⟨ai, ci, he⟩, OR⟩ := R i hi hi
    rw [he] at OR
    have S := Tn.stops_own OR
    obtain ⟨a', c', hv', hor⟩ := Pk.own_form OR
    simp only [Value.slice.injEq] at hv'
    obtain ⟨rfl, -, rfl⟩ := hv'
    have hl := hs i hi
    obtain ⟨gi, rfl⟩ := hor.resolve_left (by omega)
    refine ⟨⟨h3 _ _ ?_, h3 _ _ ?_, h3 _ _ ?_, h3 _ _ ?_⟩, gi, ci, (OR.lt gi rfl).1, h3 _ _ ?_, S⟩
    · have := X.at_ i hi hi 0 (by omega); rw [Nat.add_zero] at this; rw [this]; rfl
    · rw [X.at_ i hi hi 1 (by omega)]; rfl
    · rw [X.at_ i hi hi 2 (by omega)]; rfl
    · rw [X.at_ i hi hi 3 (by omega)]; rfl
    · rw [X.at_ i hi hi 4 (by omega), he]; rfl

theorem five_at {w : World} {b : Nat} {t : Tn.Hd} {v : Value} {ty : TypeId} {f : Nat × Nat} (h : w.heap[b]? = some (.cells #[.int .i64 t.id, .int .i64 t.dy, .int .i64 t.co, .int .i64 t.se, v] ty f)) : ∀ j u, (tc1 t v)[j]? = some u → w.cell? (Addr.add ⟨b, 0, none⟩ j) = some u := by
  intro j u hu
  rw [Od.add_plain, Nat.zero_add, cell_at h j]
  have hj := (List.getElem?_eq_some_iff.1 hu).1
  simpa [tc1] using hu

set_option maxRecDepth 100000 in
set_option maxHeartbeats 4000000 in
theorem copyS_val (a : Option Addr) (ts : List Tr) (cap : Nat) (w : World) (hn : ts.length ≤ 1048576) (hs : ∀ i (h : i < ts.length), 1 ≤ ts[i].l.length ∧ ts[i].l.length ≤ 1048576) (I : Trains w a ts) :
    Calls Tryz.prog 33 #[.slice a ts.length cap] w fun e w' => ∃ a' c', e = .returned (.slice a' ts.length c') ∧ Lw w' w.heap.size a' ts ∧ Below w.heap.size w w' := by
  have HS : Hid (∀ i (h : i < ts.length), 1 ≤ ts[i].l.length ∧ ts[i].l.length ≤ 1048576) := hs
  obtain ⟨i0, hi, hz0, hz1, hz2⟩ := info_of Tn.info_train
  have N0 := new_below w (.cells #[] 50)
  have O0 := nil_row w 50 5
  clear hs
  go_enter Tryz.func33, Tryz.ntmps33
  go_wp2
  generalize w.alloc (.cells #[] 50) = W0 at *
  go_loopw [3, 4] (fun v i wr => ∃ (k : Nat) (xs : List Value) (ps : Nat → Value), k ≤ ts.length ∧ i = .int .i64 k ∧ Below w.heap.size w wr ∧ Hid (wr.ownsRow w.heap.size 50 5 v k xs) ∧ Hid (Xs xs k ts ps) ∧ Hid (Rows5 wr w.heap.size k ts ps)) (fun _ i _ => ts.length - (intOf i).toNat)
  case atStart => exact ⟨0, [], fun _ => undef, by omega, rfl, N0, O0, ⟨rfl, fun i hi h => by omega⟩, fun i hi h => by omega⟩
  case round =>
    obtain ⟨k, xs, ps, hk, rfl, L, HO, HX, HR⟩ := hrel
    obtain ⟨qa, qc, rfl, -⟩ := Pk.own_form HO.out
    by_cases hkn : k < ts.length
    · obtain ⟨b, o, bi, oi, ci, rfl, hlt, c0, c1, c2, c3, c4, S⟩ := (I.on L).at k hkn
      have hsk := (HS.out k hkn).2
      have HC : Hid (∀ _ : Unit, _) := fun _ => Tn.copyTrain_val ts[k].h bi oi ci ts[k].l wr hsk S
      have HSN : Hid (∀ v, Xs (xs ++ tc1 ts[k].h v) (k + 1) ts (fun i => if i = k then v else ps i)) := fun v => HX.out.snoc hkn v
      have hlw := L.size
      clear S
      go_wp2_with fail
      refine (HC.out ()).mono ?_
      rintro e w2 ⟨va, vc, rfl, O2, L2⟩
      have O3 := Pk.own_below HO.out L2 (Nat.le_refl _)
      have LL := L.trans (L2.mono L.size)
      have N3 := new_below w2 (.cells #[.int .i64 ts[k].h.id, .int .i64 ts[k].h.dy, .int .i64 ts[k].h.co, .int .i64 ts[k].h.se, .slice va ts[k].l.length vc] 50)
      have m3 := heap_new w2 (.cells #[.int .i64 ts[k].h.id, .int .i64 ts[k].h.dy, .int .i64 ts[k].h.co, .int .i64 ts[k].h.se, .slice va ts[k].l.length vc] 50)
      have O4 := Pk.own_below O3 N3 (Nat.le_refl _)
      have L4 := LL.trans (N3.mono LL.size)
      have hz4 : w.heap.size ≤ (w2.alloc (.cells #[.int .i64 ts[k].h.id, .int .i64 ts[k].h.dy, .int .i64 ts[k].h.co, .int .i64 ts[k].h.se, .slice va ts[k].l.length vc] 50)).heap.size := L4.size
      have HRR : Hid (∀ w9, (w2.alloc (.cells #[.int .i64 ts[k].h.id, .int .i64 ts[k].h.dy, .int .i64 ts[k].h.co, .int .i64 ts[k].h.se, .slice va ts[k].l.length vc] 50)).grownBy w9 (Value.slice qa k qc).ownBlock → Rows5 w9 w.heap.size (k + 1) ts (fun i => if i = k then .slice va ts[k].l.length vc else ps i)) := by
        intro w9 G i hi hik
        have hne : ∀ g cs f, (w2.alloc (.cells #[.int .i64 ts[k].h.id, .int .i64 ts[k].h.dy, .int .i64 ts[k].h.co, .int .i64 ts[k].h.se, .slice va ts[k].l.length vc] 50)).heap[g]? = some (.cells cs 47 f) → some g ≠ (Value.slice qa k qc).ownBlock := fun g cs f hh => Pk.own_ne O4 hh (by decide)
        by_cases e : i = k
        · subst e
          simp only [if_true]
          exact ⟨⟨va, vc, rfl⟩, own_grown (Pk.own_below (Tn.own_base' O2 hlw) N3 (Nat.le_refl _)) G hne⟩
        · simp only [if_neg e]
          obtain ⟨q1, q2⟩ := HR.out i hi (by omega)
          exact ⟨q1, own_grown (Pk.own_below (Pk.own_below q2 L2 (Nat.le_refl _)) N3 (Nat.le_refl _)) G hne⟩
      have HSV : Hid (Xs _ _ _ _) := HSN.out (.slice va ts[k].l.length vc)
      clear HC HSN O2 O3 L2 LL N3 HO HX HR c0 c1 c2 c3 c4 hsk
      go_wp2_with (at_builtin; refine wpList_append_own_at _ rfl _ _ 22 rfl w.heap.size 50 i0 (Tn.trV ⟨0, 0, 0, 0⟩ none 0 0) 5 56 Tryz.underlying22 hi hz0 hz1 hz2 rfl (by decide) _ _ _ rfl O4 ⟨w2.heap.size, 0, none⟩ 1 1 (tc1 ts[k].h (.slice va ts[k].l.length vc)) rfl rfl ?c1 ?c2 ?c3 ?c4 ?c5 ?_)
      case c1 => exact five_at m3
      case c2 => intro u hu; simp [tc1] at hu; rcases hu with rfl | rfl | rfl | rfl | rfl <;> rfl
      case c3 => unfold maxLen; omega
      case c4 => omega
      case c5 => exact hz4
      intro v' w5 O5 G5 _ _
      have L5 : Below w.heap.size w w5 := L4.grown G5 hz4 (fun j hj => (O4.lt j hj).1)
      have HR5 : Hid (Rows5 _ _ _ _ _) := HRR.out w5 G5
      have HO5 : Hid (World.ownsRow _ _ _ _ _ _ _) := O5
      clear O4 O5 G5 L4 hz4 HRR m3
      go_wp2
      go_roundw
      case rel => exact ⟨k + 1, _, _, by omega, by go_num, L5, HO5, HSV, HR5⟩
      case measure => simp [intOf]; omega
    · obtain rfl : k = ts.length := by omega
      have HTR : Hid (Lw wr w.heap.size qa ts) := rows_trains (fun i h => (HS.out i h).1) HO.out HX.out HR.out
      clear HO HX HR
      go_wp2
      go_ret
      exact ⟨qa, qc, rfl, HTR.out, L⟩

theorem Et.put {w : World} {lo R : Nat} {a : Option Addr} {es : List Ed} (h : Et w lo a es) (hR : R < lo) (v0 v1 v2 v3 v4 v5 : Value) : Et (put6 w R v0 v1 v2 v3 v4 v5) lo a es :=
  (((((h.off hR v0).off hR v1).off hR v2).off hR v3).off hR v4).off hR v5

theorem et_mk {w w1 : World} {b o lo : Nat} {a : Option Addr} {es : List Ed} (I : Edges w (some ⟨b, o, none⟩) es) (C : es.length = 0 ∨ ∃ g, a = some ⟨g, 0, none⟩ ∧ lo ≤ g ∧ g < w1.heap.size ∧ (∀ j, j < es.length * 3 → w1.cell? ⟨g, j, none⟩ = w.cell? ⟨b, o + j, none⟩) ∧ ∀ i, w1.frozen? ⟨g, i, none⟩ = false) : Et w1 lo a es := by
  rcases C with h | ⟨g, rfl, h1, h2, h3, h4⟩
  · exact Or.inl h
  · refine Or.inr ⟨g, rfl, h1, h2, Or.inr ⟨g, 0, rfl, h2, fun i hi => ?_⟩, fun j hj => ?_⟩
    · obtain ⟨b', o', e, -, c0, c1, c2⟩ := I.at i hi
      simp only [Option.some.injEq, Addr.mk.injEq, and_true] at e
      obtain ⟨rfl, rfl⟩ := e
      rw [show 0 + i * 3 = i * 3 by omega, h3 (i * 3) (by omega), h3 (i * 3 + 1) (by omega), h3 (i * 3 + 2) (by omega)]
      exact ⟨c0, by rw [← Nat.add_assoc]; exact c1, by rw [← Nat.add_assoc]; exact c2⟩
    · obtain ⟨v, hv, -⟩ := edges_cells I j hj
      exact ⟨⟨v, by rw [h3 j hj]; exact hv⟩, h4 j⟩

theorem put6_kp {lo R : Nat} {w : World} (h : R < lo) (v0 v1 v2 v3 v4 v5 : Value) : Kp lo w (put6 w R v0 v1 v2 v3 v4 v5) :=
  (((((Kp.set v0 h).trans (Kp.set v1 h)).trans (Kp.set v2 h)).trans (Kp.set v3 h)).trans (Kp.set v4 h)).trans (Kp.set v5 h)

set_option maxRecDepth 100000 in
set_option maxHeartbeats 4000000 in
theorem specStart_yes (b o d u : Nat) (ts : List Tr) (es : List Ed) (cap cap2 : Nat) (td : Int) (w : World) (hm : es.length ≤ 1048576) (hd : d < w.heap.size) (I : Trains w (some ⟨b, o, none⟩) ts) (J : Edges w (some ⟨d, u, none⟩) es) (hB : startB ts es td = true) :
    Calls Tryz.prog 9 #[.slice (some ⟨b, o, none⟩) ts.length cap, .slice (some ⟨d, u, none⟩) es.length cap2, .int .i64 td] w fun e w' => ∃ a2 c2 a3 c3, e = .returned (.tuple #[.agg #[.slice a2 ts.length c2, .slice a3 es.length c3, .slice none 0 0, .slice none 0 0, .slice none 0 0, .int .i64 td], .bool true]) ∧ Trains w' a2 ts ∧ Edges w' a3 es ∧ Below w.heap.size w w' := by
  unfold startB at hB
  simp only [Bool.and_eq_true] at hB
  obtain ⟨b1, b2, b3⟩ := hB
  obtain ⟨q1, q2⟩ := lines_len b1
  obtain ⟨i0, hi, hz0, hz1, hz2⟩ := info_of Tf.info_edge
  have N := new_below w (.cells #[.slice none 0 0, .slice none 0 0, .slice none 0 0, .slice none 0 0, .slice none 0 0, .int .i64 0] 28)
  have m0 := heap_new w (.cells #[.slice none 0 0, .slice none 0 0, .slice none 0 0, .slice none 0 0, .slice none 0 0, .int .i64 0] 28)
  have HL : Hid (∀ _ : Unit, _) := fun _ => Tn.specLines_val (some ⟨b, o, none⟩) ts cap _ (by unfold maxLen; omega) (fun i h => by have := q2 i h; unfold maxLen; omega) (I.on N)
  have HT : Hid (∀ wx, Below w.heap.size w wx → _) := fun wx (L : Below w.heap.size w wx) => Tf.specTariff_val (some ⟨d, u, none⟩) es cap2 wx (by unfold maxLen; omega) (J.on L)
  have HB : Hid (∀ wx, _) := fun wx => Se.ins_yes td 0 90000 wx b3
  have HO : Hid (∀ wx, Below w.heap.size w wx → _) := fun wx (L : Below w.heap.size w wx) => copyS_val (some ⟨b, o, none⟩) ts cap wx (by omega) (fun i h => by have := q2 i h; omega) (I.on L)
  rw [b1] at HL
  rw [b2] at HT
  clear b1 b2 b3 q1 q2 I
  go_enter Tryz.func9, Tryz.ntmps9
  go_wp2_with fail
  refine (HL.out ()).mono ?_
  rintro e w1 ⟨rfl, L1⟩
  have m1 := kept L1 (lt_of m0) m0
  have N1 := join_below N L1
  clear m0 N L1
  go_wp2_with fail
  refine (HT.out _ N1).mono ?_
  rintro e w2 ⟨rfl, L2⟩
  have m2 := kept L2 (lt_of m1) m1
  have N2 := join_below N1 L2
  clear m1 N1 L2
  go_wp2_with fail
  refine (HB.out _).mono ?_
  rintro e w3 ⟨rfl, hw3⟩
  have hw4 := hw3.symm
  clear hw3
  subst hw4
  go_wp2_with fail
  refine (HO.out _ N2).mono ?_
  rintro e w4 ⟨a2, c2, rfl, S4, L4⟩
  have m4 := kept L4 (lt_of m2) m2
  have N4 := join_below N2 L4
  have hR : w.heap.size < w2.heap.size := lt_of m2
  clear m2 N2
  have N5 := new_below w4 (.cells #[] 52)
  have O5 := nil_row w4 52 3
  have J5 := J.on (join_below N4 N5)
  have H5 := edges_cells J5
  have m5 := kept N5 (lt_of m4) m4
  have B5 := join_below N4 N5
  have hz5 : w4.heap.size ≤ (w4.alloc (.cells #[] 52)).heap.size := N5.size
  have h24 : w2.heap.size ≤ w4.heap.size := L4.size
  clear m4 L4 HO HB HT HL N4
  go_wp2_with (at_builtin; refine wpList_append_own_at _ rfl _ _ 23 rfl w4.heap.size 52 i0 (Tf.lgV ⟨0, 0, 0⟩) 3 24 Tryz.underlying23 hi hz0 hz1 hz2 rfl (by decide) _ _ _ rfl O5 ⟨d, u, none⟩ es.length cap2 (snap (w4.alloc (.cells #[] 52)) d u (es.length * 3)) rfl ?c0 ?c1 ?c2 ?c3 ?c4 ?c5 ?_)
  case c0 => rw [snap_len]
  case c1 => exact snap_get H5
  case c2 => exact snap_one H5
  case c3 => unfold maxLen; omega
  case c4 => omega
  case c5 => exact hz5
  intro v' w6 O6 G6 _ _
  have L6 : Below w4.heap.size (w4.alloc (.cells #[] 52)) w6 := (Below.refl _ _).grown G6 hz5 (fun j hj => (O5.lt j hj).1)
  try rw [Nat.zero_add, List.nil_append] at O6
  obtain ⟨a3, c3, rfl, -⟩ := Pk.own_form O6
  have m6 := kept L6 (by have := lt_of m5; omega) m5
  have HE : Hid (Et w6 w4.heap.size a3 es) := by
    refine et_mk J5 ?_
    by_cases h0 : es.length = 0
    · exact Or.inl h0
    · obtain ⟨g, c, hv, h1, h2, h3, h4⟩ := own_g O6 (by omega)
      simp only [Value.slice.injEq] at hv
      refine Or.inr ⟨g, hv.1, h1, h2, fun j hj => ?_, h4⟩
      obtain ⟨z, hz, -⟩ := H5 j hj
      rw [hz]
      exact h3 j z (by rw [snap_at H5 j hj, hz])
  have K6 : Kp w2.heap.size w4 w6 := ⟨Nat.le_trans hz5 G6.size, fun p _ hq => by rw [L6.cell hq, N5.cell hq]⟩
  have S6 := S4.kp K6
  have B6 : Below w.heap.size w w6 := B5.grown G6 B5.size (fun j hj => by have := (O5.lt j hj).1; omega)
  have z0 : w6.cell? ⟨w.heap.size, 0, none⟩ = some (.slice none 0 0) := cell_at m6 0
  have f0 : w6.frozen? ⟨w.heap.size, 0, none⟩ = false := frozen_at m6 0
  have z1 : w6.cell? ⟨w.heap.size, 1, none⟩ = some (.slice none 0 0) := cell_at m6 1
  have f1 : w6.frozen? ⟨w.heap.size, 1, none⟩ = false := frozen_at m6 1
  have z2 : w6.cell? ⟨w.heap.size, 2, none⟩ = some (.slice none 0 0) := cell_at m6 2
  have f2 : w6.frozen? ⟨w.heap.size, 2, none⟩ = false := frozen_at m6 2
  have z3 : w6.cell? ⟨w.heap.size, 3, none⟩ = some (.slice none 0 0) := cell_at m6 3
  have f3 : w6.frozen? ⟨w.heap.size, 3, none⟩ = false := frozen_at m6 3
  have z4 : w6.cell? ⟨w.heap.size, 4, none⟩ = some (.slice none 0 0) := cell_at m6 4
  have f4 : w6.frozen? ⟨w.heap.size, 4, none⟩ = false := frozen_at m6 4
  have z5 : w6.cell? ⟨w.heap.size, 5, none⟩ = some (.int .i64 0) := cell_at m6 5
  have f5 : w6.frozen? ⟨w.heap.size, 5, none⟩ = false := frozen_at m6 5
  clear O5 O6 G6 L6 K6 S4 N5 m5 m6 J5 H5 hz5 B5 J
  go_wp2
  refine bodyPost_ret (v := .tuple #[.agg #[.slice a2 ts.length c2, .slice a3 es.length c3, .slice none 0 0, .slice none 0 0, .slice none 0 0, .int .i64 td], .bool true]) (by simp [results, Tryz.results9, go_sem, z0, z1, z2, z3, z4, z5]) rfl ?_
  exact ⟨a2, c2, a3, c3, rfl, (S6.kp (put6_kp hR _ _ _ _ _ _)).trains, (HE.out.put (by omega) _ _ _ _ _ _).edges, put6_below B6 (Nat.le_refl _) _ _ _ _ _ _⟩

set_option maxRecDepth 100000 in
set_option maxHeartbeats 2000000 in
theorem specStart_no (b o d u : Nat) (ts : List Tr) (es : List Ed) (cap cap2 : Nat) (td : Int) (w : World) (hn : ts.length ≤ maxLen) (hs : ∀ i (h : i < ts.length), ts[i].l.length ≤ maxLen) (hm : es.length ≤ maxLen) (I : Trains w (some ⟨b, o, none⟩) ts) (J : Edges w (some ⟨d, u, none⟩) es) (hB : startB ts es td = false) :
    Calls Tryz.prog 9 #[.slice (some ⟨b, o, none⟩) ts.length cap, .slice (some ⟨d, u, none⟩) es.length cap2, .int .i64 td] w fun e w' => e = .returned (.tuple #[.agg #[.slice none 0 0, .slice none 0 0, .slice none 0 0, .slice none 0 0, .slice none 0 0, .int .i64 0], .bool false]) ∧ Below w.heap.size w w' := by
  have N := new_below w (.cells #[.slice none 0 0, .slice none 0 0, .slice none 0 0, .slice none 0 0, .slice none 0 0, .int .i64 0] 28)
  have m0 := heap_new w (.cells #[.slice none 0 0, .slice none 0 0, .slice none 0 0, .slice none 0 0, .slice none 0 0, .int .i64 0] 28)
  have HL : Hid (∀ _ : Unit, _) := fun _ => Tn.specLines_val (some ⟨b, o, none⟩) ts cap _ hn hs (I.on N)
  have HT : Hid (∀ wx, Below w.heap.size w wx → _) := fun wx (L : Below w.heap.size w wx) => Tf.specTariff_val (some ⟨d, u, none⟩) es cap2 wx hm (J.on L)
  clear I J hn hs hm
  cases b1 : Tn.linesB ts
  · rw [b1] at HL
    clear b1 HT hB
    go_enter Tryz.func9, Tryz.ntmps9
    go_wp2_with fail
    refine (HL.out ()).mono ?_
    rintro e w1 ⟨rfl, L1⟩
    have m1 := kept L1 (lt_of m0) m0
    have N1 := join_below N L1
    have z0 : w1.cell? ⟨w.heap.size, 0, none⟩ = some (.slice none 0 0) := cell_at m1 0
    have f0 : w1.frozen? ⟨w.heap.size, 0, none⟩ = false := frozen_at m1 0
    have z1 : w1.cell? ⟨w.heap.size, 1, none⟩ = some (.slice none 0 0) := cell_at m1 1
    have f1 : w1.frozen? ⟨w.heap.size, 1, none⟩ = false := frozen_at m1 1
    have z2 : w1.cell? ⟨w.heap.size, 2, none⟩ = some (.slice none 0 0) := cell_at m1 2
    have f2 : w1.frozen? ⟨w.heap.size, 2, none⟩ = false := frozen_at m1 2
    have z3 : w1.cell? ⟨w.heap.size, 3, none⟩ = some (.slice none 0 0) := cell_at m1 3
    have f3 : w1.frozen? ⟨w.heap.size, 3, none⟩ = false := frozen_at m1 3
    have z4 : w1.cell? ⟨w.heap.size, 4, none⟩ = some (.slice none 0 0) := cell_at m1 4
    have f4 : w1.frozen? ⟨w.heap.size, 4, none⟩ = false := frozen_at m1 4
    have z5 : w1.cell? ⟨w.heap.size, 5, none⟩ = some (.int .i64 0) := cell_at m1 5
    have f5 : w1.frozen? ⟨w.heap.size, 5, none⟩ = false := frozen_at m1 5
    clear m0 N L1 m1
    go_wp2
    refine bodyPost_ret (v := .tuple #[.agg #[.slice none 0 0, .slice none 0 0, .slice none 0 0, .slice none 0 0, .slice none 0 0, .int .i64 0], .bool false]) (by simp [results, Tryz.results9, go_sem, z0, z1, z2, z3, z4, z5]) rfl ?_
    exact ⟨rfl, put6_below N1 (Nat.le_refl _) _ _ _ _ _ _⟩
  · cases b2 : Tf.tarB es
    · rw [b1] at HL
      rw [b2] at HT
      clear b1 b2 hB
      go_enter Tryz.func9, Tryz.ntmps9
      go_wp2_with fail
      refine (HL.out ()).mono ?_
      rintro e w1 ⟨rfl, L1⟩
      have m1 := kept L1 (lt_of m0) m0
      have N1 := join_below N L1
      clear m0 N L1
      go_wp2_with fail
      refine (HT.out _ N1).mono ?_
      rintro e w2 ⟨rfl, L2⟩
      have m2 := kept L2 (lt_of m1) m1
      have N2 := join_below N1 L2
      have z0 : w2.cell? ⟨w.heap.size, 0, none⟩ = some (.slice none 0 0) := cell_at m2 0
      have f0 : w2.frozen? ⟨w.heap.size, 0, none⟩ = false := frozen_at m2 0
      have z1 : w2.cell? ⟨w.heap.size, 1, none⟩ = some (.slice none 0 0) := cell_at m2 1
      have f1 : w2.frozen? ⟨w.heap.size, 1, none⟩ = false := frozen_at m2 1
      have z2 : w2.cell? ⟨w.heap.size, 2, none⟩ = some (.slice none 0 0) := cell_at m2 2
      have f2 : w2.frozen? ⟨w.heap.size, 2, none⟩ = false := frozen_at m2 2
      have z3 : w2.cell? ⟨w.heap.size, 3, none⟩ = some (.slice none 0 0) := cell_at m2 3
      have f3 : w2.frozen? ⟨w.heap.size, 3, none⟩ = false := frozen_at m2 3
      have z4 : w2.cell? ⟨w.heap.size, 4, none⟩ = some (.slice none 0 0) := cell_at m2 4
      have f4 : w2.frozen? ⟨w.heap.size, 4, none⟩ = false := frozen_at m2 4
      have z5 : w2.cell? ⟨w.heap.size, 5, none⟩ = some (.int .i64 0) := cell_at m2 5
      have f5 : w2.frozen? ⟨w.heap.size, 5, none⟩ = false := frozen_at m2 5
      clear m1 N1 L2 m2
      go_wp2
      refine bodyPost_ret (v := .tuple #[.agg #[.slice none 0 0, .slice none 0 0, .slice none 0 0, .slice none 0 0, .slice none 0 0, .int .i64 0], .bool false]) (by simp [results, Tryz.results9, go_sem, z0, z1, z2, z3, z4, z5]) rfl ?_
      exact ⟨rfl, put6_below N2 (Nat.le_refl _) _ _ _ _ _ _⟩
    · have b3 : inB td 0 90000 = false := by
        unfold startB at hB
        rw [b1, b2] at hB
        simpa using hB
      have HB : Hid (∀ wx, _) := fun wx => Se.ins_no td 0 90000 wx b3
      rw [b1] at HL
      rw [b2] at HT
      clear b1 b2 b3 hB
      go_enter Tryz.func9, Tryz.ntmps9
      go_wp2_with fail
      refine (HL.out ()).mono ?_
      rintro e w1 ⟨rfl, L1⟩
      have m1 := kept L1 (lt_of m0) m0
      have N1 := join_below N L1
      clear m0 N L1
      go_wp2_with fail
      refine (HT.out _ N1).mono ?_
      rintro e w2 ⟨rfl, L2⟩
      have m2 := kept L2 (lt_of m1) m1
      have N2 := join_below N1 L2
      have z0 : w2.cell? ⟨w.heap.size, 0, none⟩ = some (.slice none 0 0) := cell_at m2 0
      have f0 : w2.frozen? ⟨w.heap.size, 0, none⟩ = false := frozen_at m2 0
      have z1 : w2.cell? ⟨w.heap.size, 1, none⟩ = some (.slice none 0 0) := cell_at m2 1
      have f1 : w2.frozen? ⟨w.heap.size, 1, none⟩ = false := frozen_at m2 1
      have z2 : w2.cell? ⟨w.heap.size, 2, none⟩ = some (.slice none 0 0) := cell_at m2 2
      have f2 : w2.frozen? ⟨w.heap.size, 2, none⟩ = false := frozen_at m2 2
      have z3 : w2.cell? ⟨w.heap.size, 3, none⟩ = some (.slice none 0 0) := cell_at m2 3
      have f3 : w2.frozen? ⟨w.heap.size, 3, none⟩ = false := frozen_at m2 3
      have z4 : w2.cell? ⟨w.heap.size, 4, none⟩ = some (.slice none 0 0) := cell_at m2 4
      have f4 : w2.frozen? ⟨w.heap.size, 4, none⟩ = false := frozen_at m2 4
      have z5 : w2.cell? ⟨w.heap.size, 5, none⟩ = some (.int .i64 0) := cell_at m2 5
      have f5 : w2.frozen? ⟨w.heap.size, 5, none⟩ = false := frozen_at m2 5
      clear m1 N1 L2 m2
      go_wp2_with fail
      refine (HB.out _).mono ?_
      rintro e w3 ⟨rfl, hw3⟩
      have hw4 := hw3.symm
      clear hw3
      subst hw4
      go_wp2
      refine bodyPost_ret (v := .tuple #[.agg #[.slice none 0 0, .slice none 0 0, .slice none 0 0, .slice none 0 0, .slice none 0 0, .int .i64 0], .bool false]) (by simp [results, Tryz.results9, go_sem, z0, z1, z2, z3, z4, z5]) rfl ?_
      exact ⟨rfl, put6_below N2 (Nat.le_refl _) _ _ _ _ _ _⟩

end Of
end Go.Proofs.YtmoinacceildcaaGreatDoor
