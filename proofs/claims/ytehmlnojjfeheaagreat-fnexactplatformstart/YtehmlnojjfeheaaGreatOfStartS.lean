/- Contract of OfficeStart of the model. -/
import Derived.Test.YtehmlnojjfeheaaGreatOfStart
import Derived.Test.YtehmlnojjfeheaaGreatTnFind
namespace Go.Proofs.YtehmlnojjfeheaaGreat
namespace Of
open Go.ChangeShapes Go.WideShapes Go.ChangeAt Go.RowKit Go.Joins
open Pk (new_below join_below cell_at heap_new frozen_at lt_of kept heap_old info_of Room)
set_option linter.unusedSimpArgs false
set_option linter.unusedVariables false

open Tn (Tr Stops Trains Nums scells)
open Tf (Ed Edges)
open Se (inB in_is in_not)

/-- A train's cells. -/
def tc1 (t : Tn.Hd) (v : Value) : List Value := [.int .i64 t.id, .int .i64 t.dy, .int .i64 t.co, .int .i64 t.se, v]

/-- The cells of the first k trains, whose stops are the slices ps. -/
structure Xs (xs : List Value) (k : Nat) (ts : List Tr) (ps : Nat → Value) : Prop where
  len : xs.length = k * 5
  at_ : ∀ i (h : i < ts.length), i < k → ∀ r, r < 5 → xs[i * 5 + r]? = (tc1 ts[i].h (ps i))[r]?

theorem Xs.snoc {xs : List Value} {k : Nat} {ts : List Tr} {ps : Nat → Value} (h : Xs xs k ts ps) (hk : k < ts.length) (v : Value) : Xs (xs ++ tc1 ts[k].h v) (k + 1) ts (fun i => if i = k then v else ps i) := by
  refine ⟨by rw [List.length_append, h.len]; simp [tc1]; omega, fun i hi hik r hr => ?_⟩
  by_cases e : i = k
  · subst e
    simp only [if_true]
    rw [List.getElem?_append_right (by rw [h.len]; omega), h.len]
    congr 1
    omega
  · simp only [if_neg e]
    rw [List.getElem?_append_left (by rw [h.len]; omega)]
    exact h.at_ i hi (by omega) r hr

theorem own_grown {w w1 : World} {base e size : Nat} {v : Value} {n : Nat} {xs : List Value} {row : Option Nat} (h : w.ownsRow base e size v n xs) (hg : w.grownBy w1 row) (hne : ∀ g cs f, w.heap[g]? = some (.cells cs e f) → some g ≠ row) : w1.ownsRow base e size v n xs := by
  obtain ⟨h1, h2⟩ := h
  refine ⟨h1, ?_⟩
  rcases h2 with h2 | ⟨g, cap, cur, hv, hg', hh, hr⟩
  · exact Or.inl h2
  · exact Or.inr ⟨g, cap, cur, hv, hg', (hg.block g (lt_of hh) (hne g _ _ hh)).trans hh, hr⟩

/-- The stops of the first k trains, in rows of their own. -/
def Rows5 (w : World) (base k : Nat) (ts : List Tr) (ps : Nat → Value) : Prop := ∀ i (h : i < ts.length), i < k → (∃ a c, ps i = .slice a ts[i].l.length c) ∧ w.ownsRow base 139 3 (ps i) ts[i].l.length (scells ts[i].l)

/-- Trains, all of whose blocks lie from lo on. -/
def Lw (w : World) (lo : Nat) (a : Option Addr) (ts : List Tr) : Prop := ts.length = 0 ∨ ∃ g, a = some ⟨g, 0, none⟩ ∧ lo ≤ g ∧ g < w.heap.size ∧ ∀ i (h : i < ts.length), Nums w g (i * 5) ts[i].h ∧ ∃ gi ci, lo ≤ gi ∧ w.cell? ⟨g, i * 5 + 4, none⟩ = some (.slice (some ⟨gi, 0, none⟩) ts[i].l.length ci) ∧ Stops w (some ⟨gi, 0, none⟩) ts[i].l

theorem Lw.kp {w w1 : World} {lo : Nat} {a : Option Addr} {ts : List Tr} (h : Lw w lo a ts) (k : Kp lo w w1) : Lw w1 lo a ts := by
  rcases h with h | ⟨g, h0, h1, h2, h3⟩
  · exact Or.inl h
  · refine Or.inr ⟨g, h0, h1, Nat.lt_of_lt_of_le h2 k.1, fun i hi => ?_⟩
    obtain ⟨⟨n0, n1, n2, n3⟩, gi, ci, q1, q2, q3⟩ := h3 i hi
    exact ⟨⟨by rw [k.2 ⟨g, i * 5, none⟩ h1 h2]; exact n0, by rw [k.2 ⟨g, i * 5 + 1, none⟩ h1 h2]; exact n1, by rw [k.2 ⟨g, i * 5 + 2, none⟩ h1 h2]; exact n2, by rw [k.2 ⟨g, i * 5 + 3, none⟩ h1 h2]; exact n3⟩, gi, ci, q1, by rw [k.2 ⟨g, i * 5 + 4, none⟩ h1 h2]; exact q2, stops_kp q3 q1 k⟩

theorem Lw.trains {w : World} {lo : Nat} {a : Option Addr} {ts : List Tr} (h : Lw w lo a ts) : Trains w a ts := by
  rcases h with h | ⟨g, rfl, h1, h2, h3⟩
  · exact Or.inl (List.eq_nil_of_length_eq_zero h)
  · refine Or.inr ⟨g, 0, rfl, h2, fun i hi => ?_⟩
    obtain ⟨q, gi, ci, q1, q2, q3⟩ := h3 i hi
    rw [Nat.zero_add]
    exact ⟨q, gi, 0, ci, q2, q3⟩

theorem rows_trains {w : World} {base : Nat} {a : Option Addr} {c : Nat} {xs : List Value} {ts : List Tr} {ps : Nat → Value} (hs : ∀ i (h : i < ts.length), 1 ≤ ts[i].l.length) (O : w.ownsRow base 91 5 (.slice a ts.length c) ts.length xs) (X : Xs xs ts.length ts ps) (R : Rows5 w base ts.length ts ps) : Lw w base a ts := by
  by_cases h0 : ts.length = 0
  · exact Or.inl h0
  · obtain ⟨g, cap, hv, h1, h2, h3, h4⟩ := own_g O (by omega)
    simp only [Value.slice.injEq] at hv
    obtain ⟨rfl, -, rfl⟩ := hv
    refine Or.inr ⟨g, rfl, h1, h2, fun i hi => ?_⟩
    obtain ⟨⟨ai, ci, he⟩, OR⟩ := R i hi hi
    rw [he] at OR
    have S := Tn.stops_own OR
    obtain ⟨a', c', hv', hor⟩ := Pk.own_form OR
    simp only [Value.slice.injEq] at hv'
    obtain ⟨rfl, -, rfl⟩ := hv'
    have hl := hs i hi
    obtain ⟨gi, rfl⟩ := hor.resolve_left (by omega)
    refine ⟨⟨h3 _ _ ?_, h3 _ _ ?_, h3 _ _ ?_, h3 _ _ ?_⟩, gi, ci, (OR.lt gi rfl).1, h3 _ _ ?_, S⟩
    · have := X.at_ i hi hi 0 (by omega); rw [Nat.add_zero] at this; rw [this]; rfl
    · rw [X.at_ i hi hi 1 (by omega)]; rfl
    · rw [X.at_ i hi hi 2 (by omega)]; rfl
    · rw [X.at_ i hi hi 3 (by omega)]; rfl
    · rw [X.at_ i hi hi 4 (by omega), he]; rfl

theorem five_at {w : World} {b : Nat} {t : Tn.Hd} {v : Value} {ty : TypeId} {f : Nat × Nat} (h : w.heap[b]? = some (.cells #[.int .i64 t.id, .int .i64 t.dy, .int .i64 t.co, .int .i64 t.se, v] ty f)) : ∀ j u, (tc1 t v)[j]? = some u → w.cell? (Addr.add ⟨b, 0, none⟩ j) = some u := by
  intro j u hu
  rw [Od.add_plain, Nat.zero_add, cell_at h j]
  have hj := (List.getElem?_eq_some_iff.1 hu).1
  simpa [tc1] using hu

set_option maxRecDepth 100000 in
set_option maxHeartbeats 4000000 in
theorem copyS_val (a : Option Addr) (ts : List Tr) (cap : Nat) (w : World) (hn : ts.length ≤ 1048576) (hs : ∀ i (h : i < ts.length), 1 ≤ ts[i].l.length ∧ ts[i].l.length ≤ 1048576) (I : Trains w a ts) :
    Calls Tryz.prog 44 #[.slice a ts.length cap] w fun e w' => ∃ a' c', e = .returned (.slice a' ts.length c') ∧ Lw w' w.heap.size a' ts ∧ Below w.heap.size w w' := by
  have HS : Hid (∀ i (h : i < ts.length), 1 ≤ ts[i].l.length ∧ ts[i].l.length ≤ 1048576) := hs
  obtain ⟨i0, hi, hz0, hz1, hz2⟩ := info_of Tn.info_train
  have N0 := new_below w (.cells #[] 91)
  have O0 := nil_row w 91 5
  clear hs
  go_enter Tryz.func44, Tryz.ntmps44
  go_wp2
  generalize w.alloc (.cells #[] 91) = W0 at *
  go_loopw [3, 4] (fun v i wr => ∃ (k : Nat) (xs : List Value) (ps : Nat → Value), k ≤ ts.length ∧ i = .int .i64 k ∧ Below w.heap.size w wr ∧ Hid (wr.ownsRow w.heap.size 91 5 v k xs) ∧ Hid (Xs xs k ts ps) ∧ Hid (Rows5 wr w.heap.size k ts ps)) (fun _ i _ => ts.length - (intOf i).toNat)
  case atStart => exact ⟨0, [], fun _ => undef, by omega, rfl, N0, O0, ⟨rfl, fun i hi h => by omega⟩, fun i hi h => by omega⟩
  case round =>
    obtain ⟨k, xs, ps, hk, rfl, L, HO, HX, HR⟩ := hrel
    obtain ⟨qa, qc, rfl, -⟩ := Pk.own_form HO.out
    by_cases hkn : k < ts.length
    · obtain ⟨b, o, bi, oi, ci, rfl, hlt, c0, c1, c2, c3, c4, S⟩ := (I.on L).at k hkn
      have hsk := (HS.out k hkn).2
      have HC : Hid (∀ _ : Unit, _) := fun _ => Tn.copyTrain_val ts[k].h bi oi ci ts[k].l wr hsk S
      have HSN : Hid (∀ v, Xs (xs ++ tc1 ts[k].h v) (k + 1) ts (fun i => if i = k then v else ps i)) := fun v => HX.out.snoc hkn v
      have hlw := L.size
      clear S
      go_wp2_with fail
      refine (HC.out ()).mono ?_
      rintro e w2 ⟨va, vc, rfl, O2, L2⟩
      have O3 := Pk.own_below HO.out L2 (Nat.le_refl _)
      have LL := L.trans (L2.mono L.size)
      have N3 := new_below w2 (.cells #[.int .i64 ts[k].h.id, .int .i64 ts[k].h.dy, .int .i64 ts[k].h.co, .int .i64 ts[k].h.se, .slice va ts[k].l.length vc] 91)
      have m3 := heap_new w2 (.cells #[.int .i64 ts[k].h.id, .int .i64 ts[k].h.dy, .int .i64 ts[k].h.co, .int .i64 ts[k].h.se, .slice va ts[k].l.length vc] 91)
      have O4 := Pk.own_below O3 N3 (Nat.le_refl _)
      have L4 := LL.trans (N3.mono LL.size)
      have hz4 : w.heap.size ≤ (w2.alloc (.cells #[.int .i64 ts[k].h.id, .int .i64 ts[k].h.dy, .int .i64 ts[k].h.co, .int .i64 ts[k].h.se, .slice va ts[k].l.length vc] 91)).heap.size := L4.size
      have HRR : Hid (∀ w9, (w2.alloc (.cells #[.int .i64 ts[k].h.id, .int .i64 ts[k].h.dy, .int .i64 ts[k].h.co, .int .i64 ts[k].h.se, .slice va ts[k].l.length vc] 91)).grownBy w9 (Value.slice qa k qc).ownBlock → Rows5 w9 w.heap.size (k + 1) ts (fun i => if i = k then .slice va ts[k].l.length vc else ps i)) := by
        intro w9 G i hi hik
        have hne : ∀ g cs f, (w2.alloc (.cells #[.int .i64 ts[k].h.id, .int .i64 ts[k].h.dy, .int .i64 ts[k].h.co, .int .i64 ts[k].h.se, .slice va ts[k].l.length vc] 91)).heap[g]? = some (.cells cs 139 f) → some g ≠ (Value.slice qa k qc).ownBlock := fun g cs f hh => Pk.own_ne O4 hh (by decide)
        by_cases e : i = k
        · subst e
          simp only [if_true]
          exact ⟨⟨va, vc, rfl⟩, own_grown (Pk.own_below (Tn.own_base' O2 hlw) N3 (Nat.le_refl _)) G hne⟩
        · simp only [if_neg e]
          obtain ⟨q1, q2⟩ := HR.out i hi (by omega)
          exact ⟨q1, own_grown (Pk.own_below (Pk.own_below q2 L2 (Nat.le_refl _)) N3 (Nat.le_refl _)) G hne⟩
      have HSV : Hid (Xs _ _ _ _) := HSN.out (.slice va ts[k].l.length vc)
      clear HC HSN O2 O3 L2 LL N3 HO HX HR c0 c1 c2 c3 c4 hsk
      go_wp2_with (at_builtin; refine wpList_append_own_at _ rfl _ _ 30 rfl w.heap.size 91 i0 (Tn.trV ⟨0, 0, 0, 0⟩ none 0 0) 5 56 Tryz.underlying30 hi hz0 hz1 hz2 rfl (by decide) _ _ _ rfl O4 ⟨w2.heap.size, 0, none⟩ 1 1 (tc1 ts[k].h (.slice va ts[k].l.length vc)) rfl rfl ?c1 ?c2 ?c3 ?c4 ?c5 ?_)
      case c1 => exact five_at m3
      case c2 => intro u hu; simp [tc1] at hu; rcases hu with rfl | rfl | rfl | rfl | rfl <;> rfl
      case c3 => unfold maxLen; omega
      case c4 => omega
      case c5 => exact hz4
      intro v' w5 O5 G5 _ _
      have L5 : Below w.heap.size w w5 := L4.grown G5 hz4 (fun j hj => (O4.lt j hj).1)
      have HR5 : Hid (Rows5 _ _ _ _ _) := HRR.out w5 G5
      have HO5 : Hid (World.ownsRow _ _ _ _ _ _ _) := O5
      clear O4 O5 G5 L4 hz4 HRR m3
      go_wp2
      go_roundw
      case rel => exact ⟨k + 1, _, _, by omega, by go_num, L5, HO5, HSV, HR5⟩
      case measure => simp [intOf]; omega
    · obtain rfl : k = ts.length := by omega
      have HTR : Hid (Lw wr w.heap.size qa ts) := rows_trains (fun i h => (HS.out i h).1) HO.out HX.out HR.out
      clear HO HX HR
      go_wp2
      go_ret
      exact ⟨qa, qc, rfl, HTR.out, L⟩

theorem Et.put {w : World} {lo R : Nat} {a : Option Addr} {es : List Ed} (h : Et w lo a es) (hR : R < lo) (v0 v1 v2 v3 v4 v5 : Value) : Et (put6 w R v0 v1 v2 v3 v4 v5) lo a es :=
  (((((h.off hR v0).off hR v1).off hR v2).off hR v3).off hR v4).off hR v5

theorem et_mk {w w1 : World} {b o lo : Nat} {a : Option Addr} {es : List Ed} (I : Edges w (some ⟨b, o, none⟩) es) (C : es.length = 0 ∨ ∃ g, a = some ⟨g, 0, none⟩ ∧ lo ≤ g ∧ g < w1.heap.size ∧ (∀ j, j < es.length * 3 → w1.cell? ⟨g, j, none⟩ = w.cell? ⟨b, o + j, none⟩) ∧ ∀ i, w1.frozen? ⟨g, i, none⟩ = false) : Et w1 lo a es := by
  rcases C with h | ⟨g, rfl, h1, h2, h3, h4⟩
  · exact Or.inl h
  · refine Or.inr ⟨g, rfl, h1, h2, Or.inr ⟨g, 0, rfl, h2, fun i hi => ?_⟩, fun j hj => ?_⟩
    · obtain ⟨b', o', e, -, c0, c1, c2⟩ := I.at i hi
      simp only [Option.some.injEq, Addr.mk.injEq, and_true] at e
      obtain ⟨rfl, rfl⟩ := e
      rw [show 0 + i * 3 = i * 3 by omega, h3 (i * 3) (by omega), h3 (i * 3 + 1) (by omega), h3 (i * 3 + 2) (by omega)]
      exact ⟨c0, by rw [← Nat.add_assoc]; exact c1, by rw [← Nat.add_assoc]; exact c2⟩
    · obtain ⟨v, hv, -⟩ := edges_cells I j hj
      exact ⟨⟨v, by rw [h3 j hj]; exact hv⟩, h4 j⟩

theorem put6_kp {lo R : Nat} {w : World} (h : R < lo) (v0 v1 v2 v3 v4 v5 : Value) : Kp lo w (put6 w R v0 v1 v2 v3 v4 v5) :=
  (((((Kp.set v0 h).trans (Kp.set v1 h)).trans (Kp.set v2 h)).trans (Kp.set v3 h)).trans (Kp.set v4 h)).trans (Kp.set v5 h)

end Of
end Go.Proofs.YtehmlnojjfeheaaGreat
