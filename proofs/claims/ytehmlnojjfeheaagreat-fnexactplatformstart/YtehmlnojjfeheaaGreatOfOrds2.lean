/- Contracts of the laws' own helpers over lists of orders: a copy, two of them held against each other; a list that came in. -/
import Derived.Test.YtehmlnojjfeheaaGreatOfOrds
namespace Go.Proofs.YtehmlnojjfeheaaGreat
namespace Od
open Go.ChangeShapes Go.WideShapes Go.ChangeAt Go.RowKit Go.Joins
open Pk (new_below join_below cell_at heap_new frozen_at lt_of kept heap_old info_of Room)
open Rd (Ri Rides)
set_option linter.unusedSimpArgs false
set_option linter.unusedVariables false

theorem add_plain (b o i : Nat) : Addr.add ⟨b, o, none⟩ i = ⟨b, o + i, none⟩ := by simp [Addr.add]

theorem set_cell {w : World} {g i j : Nat} {u v : Value} (h : w.cell? ⟨g, i, none⟩ = some v) : (w.setCell ⟨g, j, none⟩ u).cell? ⟨g, i, none⟩ = some (if i = j then u else v) := by
  by_cases e : i = j
  · subst e
    rw [if_pos rfl]
    exact World.cell?_setCell_same _ _ _ h
  · rw [if_neg e, World.cell?_setCell_other _ _ _ _ (by intro h; apply e; simpa using h.symm)]
    exact h

/-- An order of the call's own at a place of block g: its rides lie in a block of their own, from lo on. -/
def OwnAt (w : World) (lo g o : Nat) (t : Oo) : Prop := Nums w g o t.h ∧ ∃ gi, lo ≤ gi ∧ gi ≠ g ∧ gi < w.heap.size ∧ w.cell? ⟨g, o + 5, none⟩ = some (.slice (some ⟨gi, 0, none⟩) t.l.length t.l.length) ∧ Rides w (some ⟨gi, 0, none⟩) t.l ∧ Room w gi (t.l.length * 4)

/-- A list of orders of the call's own, the first k of which are laid. -/
def Mine (w : World) (lo g n k : Nat) (ts : List Oo) : Prop := Room w g (n * 9) ∧ ∀ i (h : i < ts.length), i < k → OwnAt w lo g (i * 9) ts[i]

theorem OwnAt.on {w w1 : World} {lo g o : Nat} {t : Oo} (h : OwnAt w lo g o t) (L : Below w.heap.size w w1) (hg : g < w.heap.size) : OwnAt w1 lo g o t := by
  obtain ⟨h1, gi, h2, h3, h4, h5, h6, h7⟩ := h
  exact ⟨h1.on fun j => L.cell (p := ⟨g, j, none⟩) hg, gi, h2, h3, Nat.lt_of_lt_of_le h4 L.size, by rw [L.cell (p := ⟨g, o + 5, none⟩) hg]; exact h5, h6.on L, h7.on L h4⟩

theorem Mine.on {w w1 : World} {lo g n k : Nat} {ts : List Oo} (h : Mine w lo g n k ts) (L : Below w.heap.size w w1) (hg : g < w.heap.size) : Mine w1 lo g n k ts :=
  ⟨h.1.on L hg, fun i hi hk => (h.2 i hi hk).on L hg⟩

/-- An order's cells written. -/
def setOd (w : World) (g j : Nat) (t : Hd) (gi n : Nat) : World := ((((((((w.setCell ⟨g, j, none⟩ (.int .i64 t.id)).setCell ⟨g, j + 1, none⟩ (.int .i64 t.st)).setCell ⟨g, j + 2, none⟩ (.string t.nm)).setCell ⟨g, j + 3, none⟩ (.int .i64 t.cl)).setCell ⟨g, j + 4, none⟩ (.int .i64 t.ca)).setCell ⟨g, j + 5, none⟩ (.slice (some ⟨gi, 0, none⟩) n n)).setCell ⟨g, j + 6, none⟩ (.int .i64 t.pr)).setCell ⟨g, j + 7, none⟩ (.int .i64 t.pa)).setCell ⟨g, j + 8, none⟩ (.int .i64 t.fi)

theorem setOd_size (w : World) (g j : Nat) (t : Hd) (gi n : Nat) : (setOd w g j t gi n).heap.size = w.heap.size := by
  unfold setOd
  rw [World.size_setCell, World.size_setCell, World.size_setCell, World.size_setCell, World.size_setCell, World.size_setCell, World.size_setCell, World.size_setCell, World.size_setCell]

theorem setOd_other {w : World} {g j : Nat} {t : Hd} {gi n : Nat} {p : Addr} (h : p.block ≠ g) : (setOd w g j t gi n).cell? p = w.cell? p := by
  unfold setOd
  rw [cell_other h, cell_other h, cell_other h, cell_other h, cell_other h, cell_other h, cell_other h, cell_other h, cell_other h]

theorem setOd_room {w : World} {g j : Nat} {t : Hd} {gi n b m : Nat} (h : Room w b m) : Room (setOd w g j t gi n) b m :=
  ((((((((h.set g j _).set g (j + 1) _).set g (j + 2) _).set g (j + 3) _).set g (j + 4) _).set g (j + 5) _).set g (j + 6) _).set g (j + 7) _).set g (j + 8) _

theorem setOd_cell {w : World} {g i j : Nat} {t : Hd} {gi n : Nat} {v : Value} (h : w.cell? ⟨g, i, none⟩ = some v) : (setOd w g j t gi n).cell? ⟨g, i, none⟩ = some (if i = j + 8 then .int .i64 t.fi else if i = j + 7 then .int .i64 t.pa else if i = j + 6 then .int .i64 t.pr else if i = j + 5 then .slice (some ⟨gi, 0, none⟩) n n else if i = j + 4 then .int .i64 t.ca else if i = j + 3 then .int .i64 t.cl else if i = j + 2 then .string t.nm else if i = j + 1 then .int .i64 t.st else if i = j then .int .i64 t.id else v) := set_cell (set_cell (set_cell (set_cell (set_cell (set_cell (set_cell (set_cell (set_cell h))))))))

theorem rides_away {w w1 : World} {gi g : Nat} {l : List Ri} (h : Rides w (some ⟨gi, 0, none⟩) l) (hsz : w1.heap.size = w.heap.size) (hc : ∀ p : Addr, p.block ≠ g → w1.cell? p = w.cell? p) (hne : gi ≠ g) : Rides w1 (some ⟨gi, 0, none⟩) l := by
  rcases h with h | ⟨b, o, e, hb, hcc⟩
  · exact Or.inl h
  · simp only [Option.some.injEq, Addr.mk.injEq, and_true] at e
    obtain ⟨rfl, rfl⟩ := e
    refine Or.inr ⟨gi, 0, rfl, by omega, fun i hi => ?_⟩
    rw [hc ⟨gi, 0 + i * 4, none⟩ hne, hc ⟨gi, 0 + i * 4 + 1, none⟩ hne, hc ⟨gi, 0 + i * 4 + 2, none⟩ hne, hc ⟨gi, 0 + i * 4 + 3, none⟩ hne]
    exact hcc i hi

theorem Mine.step {w : World} {lo g n k gi : Nat} {ts : List Oo} (h : Mine w lo g n k ts) (hk : k < n) (hkt : k < ts.length) (h1 : lo ≤ gi) (h2 : gi ≠ g) (h3 : gi < w.heap.size) (S : Rides w (some ⟨gi, 0, none⟩) ts[k].l) (R : Room w gi (ts[k].l.length * 4)) : Mine (setOd w g (k * 9) ts[k].h gi ts[k].l.length) lo g n (k + 1) ts := by
  refine ⟨setOd_room h.1, fun i hi hik => ?_⟩
  by_cases e : i = k
  · subst e
    obtain ⟨⟨v0, e0⟩, -⟩ := h.1 (i * 9) (by omega)
    obtain ⟨⟨v1, e1⟩, -⟩ := h.1 (i * 9 + 1) (by omega)
    obtain ⟨⟨v2, e2⟩, -⟩ := h.1 (i * 9 + 2) (by omega)
    obtain ⟨⟨v3, e3⟩, -⟩ := h.1 (i * 9 + 3) (by omega)
    obtain ⟨⟨v4, e4⟩, -⟩ := h.1 (i * 9 + 4) (by omega)
    obtain ⟨⟨v5, e5⟩, -⟩ := h.1 (i * 9 + 5) (by omega)
    obtain ⟨⟨v6, e6⟩, -⟩ := h.1 (i * 9 + 6) (by omega)
    obtain ⟨⟨v7, e7⟩, -⟩ := h.1 (i * 9 + 7) (by omega)
    obtain ⟨⟨v8, e8⟩, -⟩ := h.1 (i * 9 + 8) (by omega)
    refine ⟨⟨?_, ?_, ?_, ?_, ?_, ?_, ?_, ?_⟩, gi, h1, h2, by rw [setOd_size]; exact h3, ?_, rides_away S (setOd_size ..) (fun p hp => setOd_other hp) h2, setOd_room R⟩
    · rw [setOd_cell e0]; simp
    · rw [setOd_cell e1]; simp
    · rw [setOd_cell e2]; simp
    · rw [setOd_cell e3]; simp
    · rw [setOd_cell e4]; simp
    · rw [setOd_cell e6]; simp
    · rw [setOd_cell e7]; simp
    · rw [setOd_cell e8]; simp
    · rw [setOd_cell e5]; simp
  · obtain ⟨⟨e0, e1, e2, e3, e4, e6, e7, e8⟩, gj, q1, q2, q3, q4, q5, q6⟩ := h.2 i hi (by omega)
    refine ⟨⟨?_, ?_, ?_, ?_, ?_, ?_, ?_, ?_⟩, gj, q1, q2, by rw [setOd_size]; exact q3, ?_, rides_away q5 (setOd_size ..) (fun p hp => setOd_other hp) q2, setOd_room q6⟩
    · rw [setOd_cell e0, if_neg (by omega), if_neg (by omega), if_neg (by omega), if_neg (by omega), if_neg (by omega), if_neg (by omega), if_neg (by omega), if_neg (by omega), if_neg (by omega)]
    · rw [setOd_cell e1, if_neg (by omega), if_neg (by omega), if_neg (by omega), if_neg (by omega), if_neg (by omega), if_neg (by omega), if_neg (by omega), if_neg (by omega), if_neg (by omega)]
    · rw [setOd_cell e2, if_neg (by omega), if_neg (by omega), if_neg (by omega), if_neg (by omega), if_neg (by omega), if_neg (by omega), if_neg (by omega), if_neg (by omega), if_neg (by omega)]
    · rw [setOd_cell e3, if_neg (by omega), if_neg (by omega), if_neg (by omega), if_neg (by omega), if_neg (by omega), if_neg (by omega), if_neg (by omega), if_neg (by omega), if_neg (by omega)]
    · rw [setOd_cell e4, if_neg (by omega), if_neg (by omega), if_neg (by omega), if_neg (by omega), if_neg (by omega), if_neg (by omega), if_neg (by omega), if_neg (by omega), if_neg (by omega)]
    · rw [setOd_cell e6, if_neg (by omega), if_neg (by omega), if_neg (by omega), if_neg (by omega), if_neg (by omega), if_neg (by omega), if_neg (by omega), if_neg (by omega), if_neg (by omega)]
    · rw [setOd_cell e7, if_neg (by omega), if_neg (by omega), if_neg (by omega), if_neg (by omega), if_neg (by omega), if_neg (by omega), if_neg (by omega), if_neg (by omega), if_neg (by omega)]
    · rw [setOd_cell e8, if_neg (by omega), if_neg (by omega), if_neg (by omega), if_neg (by omega), if_neg (by omega), if_neg (by omega), if_neg (by omega), if_neg (by omega), if_neg (by omega)]
    · rw [setOd_cell q4, if_neg (by omega), if_neg (by omega), if_neg (by omega), if_neg (by omega), if_neg (by omega), if_neg (by omega), if_neg (by omega), if_neg (by omega), if_neg (by omega)]

theorem Mine.orders {w : World} {lo g : Nat} {ts : List Oo} (h : Mine w lo g ts.length ts.length ts) (hg : g < w.heap.size) : Orders w (some ⟨g, 0, none⟩) ts := by
  refine Or.inr ⟨g, 0, rfl, hg, fun i hi => ?_⟩
  obtain ⟨h1, gi, -, -, -, h2, h3, -⟩ := h.2 i hi hi
  rw [Nat.zero_add]
  exact ⟨h1, some ⟨gi, 0, none⟩, _, h2, h3⟩

theorem info_order : (Tryz.prog.info? 85).map (fun i => (i.zero, i.size, i.bytes)) = some (some (odV ⟨0, 0, ByteArray.empty, 0, 0, 0, 0, 0⟩ none 0 0), 9, 96) := by kernel_rfl

set_option maxHeartbeats 4000000 in
theorem toOrderS_val (a : Option Addr) (ts : List Oo) (cap : Nat) (w : World) (hz : bulk ts ≤ 1048576) (I : Orders w a ts) :
    Calls Tryz.prog 23 #[.slice a ts.length cap] w fun e w' => e = .returned (.slice (some ⟨w.heap.size, 0, none⟩) ts.length ts.length) ∧ Below w.heap.size w w' ∧ w.heap.size < w'.heap.size ∧ Mine w' w.heap.size w.heap.size ts.length ts.length ts := by
  have HZ : Hid (∀ k (hk : k < ts.length), ts[k].l.length ≤ 1048576) := fun k hk => (bulk_le hz k hk).2
  have hz : ts.length ≤ 1048576 := by unfold bulk at hz; omega
  obtain ⟨i0, hi, hz0, hz1, hz2⟩ := info_of info_order
  go_enter Tryz.func23, Tryz.ntmps23
  go_wp2_with (at_make; refine wpList_make_full _ rfl _ _ 33 rfl w.heap.size 85 i0 (odV ⟨0, 0, ByteArray.empty, 0, 0, 0, 0, 0⟩ none 0 0) 9 Tryz.underlying33 hi hz0 hz1 .i64 .i64 _ _ ts.length rfl rfl rfl rfl (by rw [hz2]; omega) (by unfold maxLen; omega) (Nat.le_refl _) ?_; intro w1 hown hgrow)
  have L1 : Below w.heap.size w w1 := (Below.refl _ _).grown hgrow (Nat.le_refl _) (fun k hk => by cases hk)
  obtain ⟨-, h | ⟨g, c, cur, he, hge, hcur, hnc, hcm, hcs, -⟩⟩ := hown
  · obtain ⟨h, -⟩ := h
    cases h
  obtain ⟨rfl, rfl⟩ : g = w.heap.size ∧ c = ts.length := by
    simp only [Value.slice.injEq, Option.some.injEq, Addr.mk.injEq] at he
    exact ⟨he.1.1.symm, he.2.2.symm⟩
  have F0 : Mine w1 w.heap.size w.heap.size ts.length 0 ts := by
    refine ⟨fun j hj => ⟨⟨cur[j], ?_⟩, frozen_at hcur j⟩, fun i h hk => by omega⟩
    rw [cell_at hcur j]
    exact Array.getElem?_eq_getElem (by omega)
  have hl1 : w.heap.size < w1.heap.size := lt_of hcur
  clear he hge hcur hnc hcm hcs hgrow
  go_wp2
  go_loopw [4] (fun i wr => ∃ k : Nat, k ≤ ts.length ∧ i = .int .i64 k ∧ Below w.heap.size w wr ∧ w.heap.size < wr.heap.size ∧ Hid (Mine wr w.heap.size w.heap.size ts.length k ts)) (fun i _ => ts.length - (intOf i).toNat)
  case atStart => exact ⟨0, by omega, rfl, L1, hl1, F0⟩
  case round =>
    obtain ⟨k, hk, rfl, LR, hl, F⟩ := hrel
    by_cases hkn : k < ts.length
    · obtain ⟨b, o, ai, ci, rfl, hlt, hc0, hc1, hc2, hc3, hc4, hc6, hc7, hc8, hc5, J⟩ := (I.on LR).at k hkn
      have HC : Hid (∀ w, Rides w ai ts[k].l → _) := fun w h => toOrder_val ts[k].h ai ts[k].l ci w (HZ.out k hkn) h
      go_wp2_with fail
      refine (HC.out _ J).mono ?_
      rintro e w2 ⟨gi, rfl, hgi, L2, hgl, S2, R2⟩
      have L3 := LR.trans (L2.mono LR.size)
      have hl3 := Nat.lt_of_lt_of_le hl L2.size
      obtain ⟨⟨v0, f0⟩, z0⟩ := F.out.1 (k * 9) (by omega)
      obtain ⟨⟨v1, f1⟩, z1⟩ := F.out.1 (k * 9 + 1) (by omega)
      obtain ⟨⟨v2, f2⟩, z2⟩ := F.out.1 (k * 9 + 2) (by omega)
      obtain ⟨⟨v3, f3⟩, z3⟩ := F.out.1 (k * 9 + 3) (by omega)
      obtain ⟨⟨v4, f4⟩, z4⟩ := F.out.1 (k * 9 + 4) (by omega)
      obtain ⟨⟨v5, f5⟩, z5⟩ := F.out.1 (k * 9 + 5) (by omega)
      obtain ⟨⟨v6, f6⟩, z6⟩ := F.out.1 (k * 9 + 6) (by omega)
      obtain ⟨⟨v7, f7⟩, z7⟩ := F.out.1 (k * 9 + 7) (by omega)
      obtain ⟨⟨v8, f8⟩, z8⟩ := F.out.1 (k * 9 + 8) (by omega)
      rw [← L2.cell hl] at f0 f1 f2 f3 f4 f5 f6 f7 f8
      rw [← L2.frozen hl] at z0 z1 z2 z3 z4 z5 z6 z7 z8
      have FS : Hid (Mine (setOd w2 w.heap.size (k * 9) ts[k].h gi ts[k].l.length) w.heap.size w.heap.size ts.length (k + 1) ts) := (F.out.on L2 hl).step hkn hkn (by omega) (by omega) hgl S2 R2
      have LS : Below w.heap.size w (setOd w2 w.heap.size (k * 9) ts[k].h gi ts[k].l.length) := ((((((((L3.setCell (Nat.le_refl _) _).setCell (Nat.le_refl _) _).setCell (Nat.le_refl _) _).setCell (Nat.le_refl _) _).setCell (Nat.le_refl _) _).setCell (Nat.le_refl _) _).setCell (Nat.le_refl _) _).setCell (Nat.le_refl _) _).setCell (Nat.le_refl _) _
      have hls : w.heap.size < (setOd w2 w.heap.size (k * 9) ts[k].h gi ts[k].l.length).heap.size := by rw [setOd_size]; exact hl3
      clear F S2 R2 HC
      generalize ts[k].l.length = m at *
      generalize ts[k].h = p at *
      unfold setOd at FS LS hls
      go_wp2
      go_roundw
      case rel => exact ⟨k + 1, by omega, by go_num, LS, hls, FS⟩
      case measure => simp [intOf]; omega
    · obtain rfl : k = ts.length := by omega
      go_wp2
      go_ret
      exact ⟨rfl, LR, hl, F.out⟩

set_option maxHeartbeats 1000000 in
theorem eqOrderS_same (a b : Option Addr) (ts : List Oo) (c1 c2 : Nat) (w : World) (hz : bulk ts ≤ 1048576) (I : Orders w a ts) (J : Orders w b ts) :
    Calls Tryz.prog 30 #[.slice a ts.length c1, .slice b ts.length c2] w fun e w' => e = .returned (.bool true) ∧ Below w.heap.size w w' := by
  have HZ : Hid (∀ k (hk : k < ts.length), ts[k].l.length ≤ 1048576) := fun k hk => (bulk_le hz k hk).2
  have hz : ts.length ≤ 1048576 := by unfold bulk at hz; omega
  go_enter Tryz.func30, Tryz.ntmps30
  go_wp2
  go_loopw [5] (fun i wr => ∃ (k : Nat), k ≤ ts.length ∧ i = .int .i64 k ∧ Below w.heap.size w wr) (fun i _ => ts.length - (intOf i).toNat)
  case atStart => exact ⟨0, by omega, rfl, Below.refl _ _⟩
  case round =>
    obtain ⟨k, hk, rfl, L⟩ := hrel
    by_cases hkn : k < ts.length
    · obtain ⟨x, o, xi, xc, rfl, hx, hx0, hx1, hx2, hx3, hx4, hx6, hx7, hx8, hx5, SI⟩ := (I.on L).at k hkn
      obtain ⟨y, u, yi, yc, rfl, hy, hy0, hy1, hy2, hy3, hy4, hy6, hy7, hy8, hy5, SJ⟩ := (J.on L).at k hkn
      have HE : Hid (∀ w, Rides w xi ts[k].l → Rides w yi ts[k].l → _) := fun w h1 h2 => eqOrder_same ts[k].h xi yi ts[k].l xc yc w (HZ.out k hkn) h1 h2
      generalize ts[k].h = p at *
      generalize ts[k].l = q at *
      go_wp2
      go_region_with (go_at_call 61; (with_reducible refine (HE.out _ ?_ ?_).mono ?_); (first | exact SI | exact SI.on (Below.refl _ _).drew); (first | exact SJ | exact SJ.on (Below.refl _ _).drew); rintro e w3 ⟨rfl, L3⟩)
      all_goals
        have L4 : Below w.heap.size w w3 := L.drew.trans (L3.mono L.size)
        go_wp2
        go_roundw
        case rel => exact ⟨k + 1, by omega, by go_num, L4⟩
        case measure => simp [intOf]; omega
    · go_wp2
      go_ret
      exact ⟨rfl, L⟩

/-- Numbers that an int holds. -/
abbrev WfI (x : Int) : Prop := (Lit.int .i64 x).wf = true

/-- All numbers of an order are such, and its texts are none too long. -/
structure Wf (t : Oo) : Prop where
  id : WfI t.h.id
  st : WfI t.h.st
  cl : WfI t.h.cl
  ca : WfI t.h.ca
  pr : WfI t.h.pr
  pa : WfI t.h.pa
  fi : WfI t.h.fi
  nm : t.h.nm.size ≤ maxLen
  le : t.l.length ≤ maxLen

set_option maxRecDepth 100000 in
theorem order_cells {H : Type} {enc : TypeId × Value → H} {W : World} {base : Nat} {spare : Nat → Bool} {held : Bool} {fuel : Nat} {cs : List Value} {x : DataW H × List MemPlace} (h : DataW.trod enc Tryz.prog W base spare held fuel 76 cs = some x) :
    ∃ (t : Oo) (a : Option Addr) (cap : Nat), cs = [.int .i64 t.h.id, .int .i64 t.h.st, .string t.h.nm, .int .i64 t.h.cl, .int .i64 t.h.ca, .slice a t.l.length cap, .int .i64 t.h.pr, .int .i64 t.h.pa, .int .i64 t.h.fi] ∧ Rides W a t.l ∧ Wf t := by
  obtain ⟨xs, n, -, -, hl, hxl, hf⟩ := DataW.trod_struct Tryz.underlying76 h
  have hl9 : cs.length = 9 := hl.trans (by kernel_rfl)
  have c1 : Tryz.prog.cellsOf 3 = 1 := by kernel_rfl
  have c2 : Tryz.prog.cellsOf 9 = 1 := by kernel_rfl
  have c3 : Tryz.prog.cellsOf 74 = 1 := by kernel_rfl
  match xs, hxl, cs, hl9 with
  | [y0, y1, y2, y3, y4, y5, y6, y7, y8], _, [v0, v1, v2, v3, v4, v5, v6, v7, v8], _ =>
    have h0 := hf 0 _ rfl
    have h1 := hf 1 _ rfl
    have h2 := hf 2 _ rfl
    have h3 := hf 3 _ rfl
    have h4 := hf 4 _ rfl
    have h5 := hf 5 _ rfl
    have h6 := hf 6 _ rfl
    have h7 := hf 7 _ rfl
    have h8 := hf 8 _ rfl
    simp [c1, c2, c3] at h0 h1 h2 h3 h4 h5 h6 h7 h8
    obtain ⟨a0, e0, -, w0⟩ := DataW.trod_int Tryz.underlying3 h0
    obtain ⟨a1, e1, -, w1⟩ := DataW.trod_int Tryz.underlying3 h1
    obtain ⟨a3, e3, -, w3⟩ := DataW.trod_int Tryz.underlying3 h3
    obtain ⟨a4, e4, -, w4⟩ := DataW.trod_int Tryz.underlying3 h4
    obtain ⟨a6, e6, -, w6⟩ := DataW.trod_int Tryz.underlying3 h6
    obtain ⟨a7, e7, -, w7⟩ := DataW.trod_int Tryz.underlying3 h7
    obtain ⟨a8, e8, -, w8⟩ := DataW.trod_int Tryz.underlying3 h8
    obtain ⟨s, e2, -, w2⟩ := DataW.trod_string Tryz.underlying9 h2
    obtain ⟨a5, cap, ls, e5, hm, I⟩ := Rd.rides_open h5
    simp at e0 e1 e2 e3 e4 e5 e6 e7 e8
    exact ⟨⟨⟨a0, a1, s, a3, a4, a6, a7, a8⟩, ls⟩, a5, cap, by rw [e0, e1, e2, e3, e4, e5, e6, e7, e8], I, ⟨w0, w1, w3, w4, w6, w7, w8, w2, hm⟩⟩

theorem orders_open {H : Type} {enc : TypeId × Value → H} {W : World} {base : Nat} {spare : Nat → Bool} {held : Bool} {fuel : Nat} {cs : List Value} {x : DataW H × List MemPlace} (h : DataW.trod enc Tryz.prog W base spare held fuel 25 cs = some x) :
    ∃ (a : Option Addr) (cap : Nat) (ts : List Oo), cs = [.slice a ts.length cap] ∧ ts.length ≤ maxLen ∧ Orders W a ts ∧ ∀ t ∈ ts, Wf t := by
  rcases Go.Deep.open_slice Tryz.underlying25 h with ⟨h0, -⟩ | ⟨a, len, cap, m, n, D, Pl, rfl, hb, hl, hm, hmm, -, hx⟩
  · exact ⟨none, 0, [], h0, by simp, Or.inl rfl, fun t h => by simp at h⟩
  have hlm : len ≤ m := by rw [hmm]; split <;> omega
  have c9 : Tryz.prog.cellsOf 76 = 9 := by kernel_rfl
  have each : ∀ i, i < len → ∃ t : Oo, Wf t ∧ ∃ ai ci, W.cell? (a.add (i * 9)) = some (.int .i64 t.h.id) ∧ W.cell? (a.add (i * 9 + 1)) = some (.int .i64 t.h.st) ∧ W.cell? (a.add (i * 9 + 2)) = some (.string t.h.nm) ∧ W.cell? (a.add (i * 9 + 3)) = some (.int .i64 t.h.cl) ∧ W.cell? (a.add (i * 9 + 4)) = some (.int .i64 t.h.ca) ∧ W.cell? (a.add (i * 9 + 5)) = some (.slice ai t.l.length ci) ∧ W.cell? (a.add (i * 9 + 6)) = some (.int .i64 t.h.pr) ∧ W.cell? (a.add (i * 9 + 7)) = some (.int .i64 t.h.pa) ∧ W.cell? (a.add (i * 9 + 8)) = some (.int .i64 t.h.fi) ∧ Rides W ai t.l := by
    intro i hi
    obtain ⟨cs', h1, h2⟩ := hx i (by omega)
    rw [c9] at h1
    obtain ⟨-, hlen, hcell⟩ := World.cells?_some h1
    obtain ⟨t, ai, ci, rfl, S, hs⟩ := order_cells h2
    refine ⟨t, hs, ai, ci, ?_, ?_, ?_, ?_, ?_, ?_, ?_, ?_, ?_, S⟩
    · have := hcell 0 (by simp)
      rw [Go.Deep.add_add] at this
      simpa using this
    · have := hcell 1 (by simp)
      rw [Go.Deep.add_add] at this
      simpa using this
    · have := hcell 2 (by simp)
      rw [Go.Deep.add_add] at this
      simpa using this
    · have := hcell 3 (by simp)
      rw [Go.Deep.add_add] at this
      simpa using this
    · have := hcell 4 (by simp)
      rw [Go.Deep.add_add] at this
      simpa using this
    · have := hcell 5 (by simp)
      rw [Go.Deep.add_add] at this
      simpa using this
    · have := hcell 6 (by simp)
      rw [Go.Deep.add_add] at this
      simpa using this
    · have := hcell 7 (by simp)
      rw [Go.Deep.add_add] at this
      simpa using this
    · have := hcell 8 (by simp)
      rw [Go.Deep.add_add] at this
      simpa using this
  haveI : Inhabited Oo := ⟨⟨⟨0, 0, ByteArray.empty, 0, 0, 0, 0, 0⟩, []⟩⟩
  obtain ⟨q, hq⟩ := Go.Deep.choose_lt each
  refine ⟨some a, cap, (List.range len).map q, by simp, by simp; omega, ?_, ?_⟩
  rotate_left
  · intro t ht
    simp at ht
    obtain ⟨i, hi, rfl⟩ := ht
    exact (hq i hi).1
  by_cases h0 : len = 0
  · subst h0; exact Or.inl rfl
  · obtain ⟨b, o, spot⟩ := a
    obtain ⟨-, ai, ci, hc0, -⟩ := hq 0 (by omega)
    have hs := World.cell?_spot hc0
    simp [Addr.add] at hs
    subst hs
    refine Or.inr ⟨b, o, rfl, ?_, fun i hi => ?_⟩
    · apply Nat.lt_of_not_le
      intro hle
      unfold World.cell? at hc0
      simp [Addr.add, Array.getElem?_eq_none hle] at hc0
    · simp at hi
      obtain ⟨-, ai, ci, e0, e1, e2, e3, e4, e5, e6, e7, e8, S⟩ := hq i hi
      simp [add_plain] at e0 e1 e2 e3 e4 e5 e6 e7 e8
      refine ⟨⟨?_, ?_, ?_, ?_, ?_, ?_, ?_, ?_⟩, ai, ci, ?_, ?_⟩
      · simpa [Nat.add_assoc] using e0
      · simpa [Nat.add_assoc] using e1
      · simpa [Nat.add_assoc] using e2
      · simpa [Nat.add_assoc] using e3
      · simpa [Nat.add_assoc] using e4
      · simpa [Nat.add_assoc] using e6
      · simpa [Nat.add_assoc] using e7
      · simpa [Nat.add_assoc] using e8
      · simpa [Nat.add_assoc] using e5
      · simpa using S

end Od
end Go.Proofs.YtehmlnojjfeheaaGreat
