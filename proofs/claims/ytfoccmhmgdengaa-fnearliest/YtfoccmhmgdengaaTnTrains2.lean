/- Contracts of the laws' own helpers over lists of trains: a copy, two of them held against each other; a list that came in. -/
import Derived.Test.YtfoccmhmgdengaaTnTrains
import Derived.Test.YtfoccmhmgdengaaTnOpen
namespace Go.Proofs.Ytfoccmhmgdengaa
namespace Tn
open Go.ChangeShapes Go.WideShapes Go.ChangeAt Go.RowKit Go.Joins
open Pk (new_below join_below cell_at heap_new frozen_at lt_of kept heap_old info_of Room)
set_option linter.unusedSimpArgs false
set_option linter.unusedVariables false

/-- A train of the call's own at a place of block g: its stops lie in a block of their own, from lo on. -/
def OwnAt (w : World) (lo g o : Nat) (t : Tr) : Prop := Nums w g o t.h ∧ ∃ gi, lo ≤ gi ∧ gi ≠ g ∧ gi < w.heap.size ∧ w.cell? ⟨g, o + 4, none⟩ = some (.slice (some ⟨gi, 0, none⟩) t.l.length t.l.length) ∧ Stops w (some ⟨gi, 0, none⟩) t.l ∧ Room w gi (t.l.length * 3)

/-- A list of trains of the call's own, the first k of which are laid. -/
def Mine (w : World) (lo g n k : Nat) (ts : List Tr) : Prop := Room w g (n * 5) ∧ ∀ i (h : i < ts.length), i < k → OwnAt w lo g (i * 5) ts[i]

theorem OwnAt.on {w w1 : World} {lo g o : Nat} {t : Tr} (h : OwnAt w lo g o t) (L : Below w.heap.size w w1) (hg : g < w.heap.size) : OwnAt w1 lo g o t := by
  obtain ⟨h1, gi, h2, h3, h4, h5, h6, h7⟩ := h
  exact ⟨h1.on fun j => L.cell (p := ⟨g, j, none⟩) hg, gi, h2, h3, Nat.lt_of_lt_of_le h4 L.size, by rw [L.cell (p := ⟨g, o + 4, none⟩) hg]; exact h5, h6.on L, h7.on L h4⟩

theorem Mine.on {w w1 : World} {lo g n k : Nat} {ts : List Tr} (h : Mine w lo g n k ts) (L : Below w.heap.size w w1) (hg : g < w.heap.size) : Mine w1 lo g n k ts :=
  ⟨h.1.on L hg, fun i hi hk => (h.2 i hi hk).on L hg⟩

/-- A train's cells written. -/
def setTr (w : World) (g j : Nat) (t : Hd) (gi n : Nat) : World := ((((w.setCell ⟨g, j, none⟩ (.int .i64 t.id)).setCell ⟨g, j + 1, none⟩ (.int .i64 t.dy)).setCell ⟨g, j + 2, none⟩ (.int .i64 t.co)).setCell ⟨g, j + 3, none⟩ (.int .i64 t.se)).setCell ⟨g, j + 4, none⟩ (.slice (some ⟨gi, 0, none⟩) n n)

theorem setTr_size (w : World) (g j : Nat) (t : Hd) (gi n : Nat) : (setTr w g j t gi n).heap.size = w.heap.size := by
  unfold setTr
  rw [World.size_setCell, World.size_setCell, World.size_setCell, World.size_setCell, World.size_setCell]

theorem setTr_other {w : World} {g j : Nat} {t : Hd} {gi n : Nat} {p : Addr} (h : p.block ≠ g) : (setTr w g j t gi n).cell? p = w.cell? p := by
  unfold setTr
  rw [cell_other h, cell_other h, cell_other h, cell_other h, cell_other h]

theorem setTr_room {w : World} {g j : Nat} {t : Hd} {gi n b m : Nat} (h : Room w b m) : Room (setTr w g j t gi n) b m :=
  ((((h.set g j _).set g (j + 1) _).set g (j + 2) _).set g (j + 3) _).set g (j + 4) _

theorem setTr_cell {w : World} {g i j : Nat} {t : Hd} {gi n : Nat} {v : Value} (h : w.cell? ⟨g, i, none⟩ = some v) : (setTr w g j t gi n).cell? ⟨g, i, none⟩ = some (if i = j + 4 then .slice (some ⟨gi, 0, none⟩) n n else if i = j + 3 then .int .i64 t.se else if i = j + 2 then .int .i64 t.co else if i = j + 1 then .int .i64 t.dy else if i = j then .int .i64 t.id else v) := set_cell (set_cell (set_cell (set_cell (set_cell h))))

theorem Stops.away {w w1 : World} {gi g : Nat} {l : List St} (h : Stops w (some ⟨gi, 0, none⟩) l) (hsz : w1.heap.size = w.heap.size) (hc : ∀ p : Addr, p.block ≠ g → w1.cell? p = w.cell? p) (hne : gi ≠ g) : Stops w1 (some ⟨gi, 0, none⟩) l := by
  rcases h with h | ⟨b, o, e, hb, hcc⟩
  · exact Or.inl h
  · simp only [Option.some.injEq, Addr.mk.injEq, and_true] at e
    obtain ⟨rfl, rfl⟩ := e
    refine Or.inr ⟨gi, 0, rfl, by omega, fun i hi => ?_⟩
    rw [hc ⟨gi, 0 + i * 3, none⟩ hne, hc ⟨gi, 0 + i * 3 + 1, none⟩ hne, hc ⟨gi, 0 + i * 3 + 2, none⟩ hne]
    exact hcc i hi

theorem Mine.step {w : World} {lo g n k gi : Nat} {ts : List Tr} (h : Mine w lo g n k ts) (hk : k < n) (hkt : k < ts.length) (h1 : lo ≤ gi) (h2 : gi ≠ g) (h3 : gi < w.heap.size) (S : Stops w (some ⟨gi, 0, none⟩) ts[k].l) (R : Room w gi (ts[k].l.length * 3)) : Mine (setTr w g (k * 5) ts[k].h gi ts[k].l.length) lo g n (k + 1) ts := by
  refine ⟨setTr_room h.1, fun i hi hik => ?_⟩
  by_cases e : i = k
  · subst e
    obtain ⟨⟨v0, e0⟩, -⟩ := h.1 (i * 5) (by omega)
    obtain ⟨⟨v1, e1⟩, -⟩ := h.1 (i * 5 + 1) (by omega)
    obtain ⟨⟨v2, e2⟩, -⟩ := h.1 (i * 5 + 2) (by omega)
    obtain ⟨⟨v3, e3⟩, -⟩ := h.1 (i * 5 + 3) (by omega)
    obtain ⟨⟨v4, e4⟩, -⟩ := h.1 (i * 5 + 4) (by omega)
    refine ⟨⟨?_, ?_, ?_, ?_⟩, gi, h1, h2, by rw [setTr_size]; exact h3, ?_, S.away (setTr_size ..) (fun p hp => setTr_other hp) h2, setTr_room R⟩
    · rw [setTr_cell e0]; simp
    · rw [setTr_cell e1]; simp
    · rw [setTr_cell e2]; simp
    · rw [setTr_cell e3]; simp
    · rw [setTr_cell e4]; simp
  · obtain ⟨⟨e0, e1, e2, e3⟩, gj, q1, q2, q3, q4, q5, q6⟩ := h.2 i hi (by omega)
    refine ⟨⟨?_, ?_, ?_, ?_⟩, gj, q1, q2, by rw [setTr_size]; exact q3, ?_, q5.away (setTr_size ..) (fun p hp => setTr_other hp) q2, setTr_room q6⟩
    · rw [setTr_cell e0, if_neg (by omega), if_neg (by omega), if_neg (by omega), if_neg (by omega), if_neg (by omega)]
    · rw [setTr_cell e1, if_neg (by omega), if_neg (by omega), if_neg (by omega), if_neg (by omega), if_neg (by omega)]
    · rw [setTr_cell e2, if_neg (by omega), if_neg (by omega), if_neg (by omega), if_neg (by omega), if_neg (by omega)]
    · rw [setTr_cell e3, if_neg (by omega), if_neg (by omega), if_neg (by omega), if_neg (by omega), if_neg (by omega)]
    · rw [setTr_cell q4, if_neg (by omega), if_neg (by omega), if_neg (by omega), if_neg (by omega), if_neg (by omega)]

theorem Mine.trains {w : World} {lo g : Nat} {ts : List Tr} (h : Mine w lo g ts.length ts.length ts) (hg : g < w.heap.size) : Trains w (some ⟨g, 0, none⟩) ts := by
  refine Or.inr ⟨g, 0, rfl, hg, fun i hi => ?_⟩
  obtain ⟨h1, gi, -, -, -, h2, h3, -⟩ := h.2 i hi hi
  rw [Nat.zero_add]
  exact ⟨h1, gi, 0, _, h2, h3⟩

theorem info_train : (Try.prog.info? 33).map (fun i => (i.zero, i.size, i.bytes)) = some (some (trV ⟨0, 0, 0, 0⟩ none 0 0), 5, 56) := by kernel_rfl

set_option maxHeartbeats 4000000 in
theorem toTrainS_val (a : Option Addr) (ts : List Tr) (cap : Nat) (w : World) (hz : bulk ts ≤ 1048576) (I : TrainsA w a ts) :
    Calls Try.prog 17 #[.slice a ts.length cap] w fun e w' => e = .returned (.slice (some ⟨w.heap.size, 0, none⟩) ts.length ts.length) ∧ Below w.heap.size w w' ∧ w.heap.size < w'.heap.size ∧ Mine w' w.heap.size w.heap.size ts.length ts.length ts := by
  have HZ : Hid (∀ k (hk : k < ts.length), ts[k].l.length ≤ 1048576) := fun k hk => (bulk_le hz k hk).2
  have hz : ts.length ≤ 1048576 := by unfold bulk at hz; omega
  obtain ⟨i0, hi, hz0, hz1, hz2⟩ := info_of info_train
  go_enter Try.func17, Try.ntmps17
  go_wp2_with (at_make; refine wpList_make_full _ rfl _ _ 24 rfl w.heap.size 33 i0 (trV ⟨0, 0, 0, 0⟩ none 0 0) 5 Try.underlying24 hi hz0 hz1 .i64 .i64 _ _ ts.length rfl rfl rfl rfl (by rw [hz2]; omega) (by unfold maxLen; omega) (Nat.le_refl _) ?_; intro w1 hown hgrow)
  have L1 : Below w.heap.size w w1 := (Below.refl _ _).grown hgrow (Nat.le_refl _) (fun k hk => by cases hk)
  obtain ⟨-, h | ⟨g, c, cur, he, hge, hcur, hnc, hcm, hcs, -⟩⟩ := hown
  · obtain ⟨h, -⟩ := h
    cases h
  obtain ⟨rfl, rfl⟩ : g = w.heap.size ∧ c = ts.length := by
    simp only [Value.slice.injEq, Option.some.injEq, Addr.mk.injEq] at he
    exact ⟨he.1.1.symm, he.2.2.symm⟩
  have F0 : Mine w1 w.heap.size w.heap.size ts.length 0 ts := by
    refine ⟨fun j hj => ⟨⟨cur[j], ?_⟩, frozen_at hcur j⟩, fun i h hk => by omega⟩
    rw [cell_at hcur j]
    exact Array.getElem?_eq_getElem (by omega)
  have hl1 : w.heap.size < w1.heap.size := lt_of hcur
  clear he hge hcur hnc hcm hcs hgrow
  go_wp2
  go_loopw [4] (fun i wr => ∃ k : Nat, k ≤ ts.length ∧ i = .int .i64 k ∧ Below w.heap.size w wr ∧ w.heap.size < wr.heap.size ∧ Hid (Mine wr w.heap.size w.heap.size ts.length k ts)) (fun i _ => ts.length - (intOf i).toNat)
  case atStart => exact ⟨0, by omega, rfl, L1, hl1, F0⟩
  case round =>
    obtain ⟨k, hk, rfl, LR, hl, F⟩ := hrel
    by_cases hkn : k < ts.length
    · obtain ⟨b, o, ai, ci, rfl, hlt, hc0, hc1, hc2, hc3, hc4, J⟩ := (I.on LR).at k hkn
      go_wp2_with fail
      refine (toTrain_val ts[k].h ai ts[k].l ci _ (HZ.out k hkn) J).mono ?_
      rintro e w2 ⟨gi, rfl, hgi, L2, hgl, S2, R2⟩
      have L3 := LR.trans (L2.mono LR.size)
      have hl3 := Nat.lt_of_lt_of_le hl L2.size
      obtain ⟨⟨v0, f0⟩, z0⟩ := F.out.1 (k * 5) (by omega)
      obtain ⟨⟨v1, f1⟩, z1⟩ := F.out.1 (k * 5 + 1) (by omega)
      obtain ⟨⟨v2, f2⟩, z2⟩ := F.out.1 (k * 5 + 2) (by omega)
      obtain ⟨⟨v3, f3⟩, z3⟩ := F.out.1 (k * 5 + 3) (by omega)
      obtain ⟨⟨v4, f4⟩, z4⟩ := F.out.1 (k * 5 + 4) (by omega)
      rw [← L2.cell hl] at f0 f1 f2 f3 f4
      rw [← L2.frozen hl] at z0 z1 z2 z3 z4
      have FS : Hid (Mine (setTr w2 w.heap.size (k * 5) ts[k].h gi ts[k].l.length) w.heap.size w.heap.size ts.length (k + 1) ts) := (F.out.on L2 hl).step hkn hkn (by omega) (by omega) hgl S2 R2
      have LS : Below w.heap.size w (setTr w2 w.heap.size (k * 5) ts[k].h gi ts[k].l.length) := ((((L3.setCell (Nat.le_refl _) _).setCell (Nat.le_refl _) _).setCell (Nat.le_refl _) _).setCell (Nat.le_refl _) _).setCell (Nat.le_refl _) _
      have hls : w.heap.size < (setTr w2 w.heap.size (k * 5) ts[k].h gi ts[k].l.length).heap.size := by rw [setTr_size]; exact hl3
      clear F S2 R2
      generalize ts[k].l.length = m at *
      generalize ts[k].h = p at *
      unfold setTr at FS LS hls
      go_wp2
      go_roundw
      case rel => exact ⟨k + 1, by omega, by go_num, LS, hls, FS⟩
      case measure => simp [intOf]; omega
    · obtain rfl : k = ts.length := by omega
      go_wp2
      go_ret
      exact ⟨rfl, LR, hl, F.out⟩

set_option maxHeartbeats 1000000 in
theorem eqTrainS_same (a b : Option Addr) (ts : List Tr) (c1 c2 : Nat) (w : World) (hz : bulk ts ≤ 1048576) (I : Trains w a ts) (J : Trains w b ts) :
    Calls Try.prog 19 #[.slice a ts.length c1, .slice b ts.length c2] w fun e w' => e = .returned (.bool true) ∧ Below w.heap.size w w' := by
  have HZ : Hid (∀ k (hk : k < ts.length), ts[k].l.length ≤ 1048576) := fun k hk => (bulk_le hz k hk).2
  have hz : ts.length ≤ 1048576 := by unfold bulk at hz; omega
  go_enter Try.func19, Try.ntmps19
  go_wp2
  go_loopw [5] (fun i wr => ∃ (k : Nat), k ≤ ts.length ∧ i = .int .i64 k ∧ Below w.heap.size w wr) (fun i _ => ts.length - (intOf i).toNat)
  case atStart => exact ⟨0, by omega, rfl, Below.refl _ _⟩
  case round =>
    obtain ⟨k, hk, rfl, L⟩ := hrel
    by_cases hkn : k < ts.length
    · obtain ⟨x, o, xi, xo, xc, rfl, hx, hx0, hx1, hx2, hx3, hx4, SI⟩ := (I.on L).at k hkn
      obtain ⟨y, u, yi, yo, yc, rfl, hy, hy0, hy1, hy2, hy3, hy4, SJ⟩ := (J.on L).at k hkn
      have HE : Hid (∀ w, Stops w (some ⟨xi, xo, none⟩) ts[k].l → Stops w (some ⟨yi, yo, none⟩) ts[k].l → _) := fun w h1 h2 => eqTrain_same ts[k].h (some ⟨xi, xo, none⟩) (some ⟨yi, yo, none⟩) ts[k].l xc yc w (HZ.out k hkn) h1 h2
      generalize ts[k].h = p at *
      generalize ts[k].l = q at *
      go_wp2
      go_region_with (go_at_call 46; (with_reducible refine (HE.out _ ?_ ?_).mono ?_); (first | exact SI | exact SI.on (Below.refl _ _).drew); (first | exact SJ | exact SJ.on (Below.refl _ _).drew); rintro e w3 ⟨rfl, L3⟩)
      all_goals
        have L4 : Below w.heap.size w w3 := L.drew.trans (L3.mono L.size)
        go_wp2
        go_roundw
        case rel => exact ⟨k + 1, by omega, by go_num, L4⟩
        case measure => simp [intOf]; omega
    · go_wp2
      go_ret
      exact ⟨rfl, L⟩

theorem trains_open {H : Type} {enc : TypeId × Value → H} {W : World} {base : Nat} {spare : Nat → Bool} {held : Bool} {fuel : Nat} {cs : List Value} {x : DataW H × List MemPlace} (h : DataW.trod enc Try.prog W base spare held fuel 45 cs = some x) :
    ∃ (a : Option Addr) (cap : Nat) (ts : List Tr), cs = [.slice a ts.length cap] ∧ ts.length ≤ maxLen ∧ (∀ i (h : i < ts.length), ts[i].l.length ≤ maxLen) ∧ TrainsA W a ts := by
  rcases Go.Deep.open_slice Try.underlying45 h with ⟨h0, -⟩ | ⟨a, len, cap, m, n, D, Pl, rfl, hb, hl, hm, hmm, -, hx⟩
  · exact ⟨none, 0, [], h0, by simp, fun i h => by simp at h, Or.inl rfl⟩
  have hlm : len ≤ m := by rw [hmm]; split <;> omega
  have c5 : Try.prog.cellsOf 85 = 5 := by kernel_rfl
  have each : ∀ i, i < len → ∃ t : Tr, t.l.length ≤ maxLen ∧ ∃ ai ci, W.cell? (a.add (i * 5)) = some (.int .i64 t.h.id) ∧ W.cell? (a.add (i * 5 + 1)) = some (.int .i64 t.h.dy) ∧ W.cell? (a.add (i * 5 + 2)) = some (.int .i64 t.h.co) ∧ W.cell? (a.add (i * 5 + 3)) = some (.int .i64 t.h.se) ∧ W.cell? (a.add (i * 5 + 4)) = some (.slice ai t.l.length ci) ∧ Stops W ai t.l := by
    intro i hi
    obtain ⟨cs', h1, h2⟩ := hx i (by omega)
    rw [c5] at h1
    obtain ⟨-, hlen, hcell⟩ := World.cells?_some h1
    obtain ⟨t, ai, ci, ls, rfl, S, hs⟩ := train_cells h2
    refine ⟨⟨t, ls⟩, hs, ai, ci, ?_, ?_, ?_, ?_, ?_, S⟩
    · have := hcell 0 (by omega)
      rw [Go.Deep.add_add] at this
      simpa using this
    · have := hcell 1 (by omega)
      rw [Go.Deep.add_add] at this
      simpa using this
    · have := hcell 2 (by omega)
      rw [Go.Deep.add_add] at this
      simpa using this
    · have := hcell 3 (by omega)
      rw [Go.Deep.add_add] at this
      simpa using this
    · have := hcell 4 (by omega)
      rw [Go.Deep.add_add] at this
      simpa using this
  haveI : Inhabited Tr := ⟨⟨⟨0, 0, 0, 0⟩, []⟩⟩
  obtain ⟨q, hq⟩ := Go.Deep.choose_lt each
  refine ⟨some a, cap, (List.range len).map q, by simp, by simp; omega, fun i hi => ?_, ?_⟩
  · simp at hi ⊢
    exact (hq i hi).1
  by_cases h0 : len = 0
  · subst h0; exact Or.inl rfl
  · obtain ⟨b, o, spot⟩ := a
    obtain ⟨-, ai, ci, hc0, -⟩ := hq 0 (by omega)
    have hs := World.cell?_spot hc0
    simp [Addr.add] at hs
    subst hs
    refine Or.inr ⟨b, o, rfl, ?_, fun i hi => ?_⟩
    · apply Nat.lt_of_not_le
      intro hle
      unfold World.cell? at hc0
      simp [Addr.add, Array.getElem?_eq_none hle] at hc0
    · simp at hi
      obtain ⟨-, ai, ci, e0, e1, e2, e3, e4, S⟩ := hq i hi
      simp [add_plain] at e0 e1 e2 e3 e4
      refine ⟨⟨?_, ?_, ?_, ?_⟩, ai, ci, ?_, ?_⟩
      · simpa [Nat.add_assoc] using e0
      · simpa [Nat.add_assoc] using e1
      · simpa [Nat.add_assoc] using e2
      · simpa [Nat.add_assoc] using e3
      · simpa [Nat.add_assoc] using e4
      · simpa using S

end Tn
end Go.Proofs.Ytfoccmhmgdengaa
