/- Which orders are sold; orders by their numbers; replies of which no two are of one request: the program's. -/
import Derived.Test.YtmoinacceildcaaGreatDoorOfOff
import Derived.Test.YtmoinacceildcaaGreatDoorSeOk
import Derived.Maps.RangeWalk
namespace Go.Proofs.YtmoinacceildcaaGreatDoor
namespace Of
open Go.ChangeShapes Go.WideShapes Go.ChangeAt Go.RowKit Go.Joins
open Pk (new_below join_below cell_at heap_new frozen_at lt_of kept heap_old info_of Room)
set_option linter.unusedSimpArgs false
set_option linter.unusedVariables false

open Se (inB in_is in_not)
open Go.Maps (Keyed)

/-- No order. -/
def od0 : Od.Oo := ⟨⟨0, 0, ByteArray.empty, 0, 0, 0, 0, 0⟩, []⟩

/-- Whether the order of a number is sold. -/
def soldB (l : List Od.Oo) (n : Int) : Bool := inB n 1 l.length && decide ((l.getD (n - 1).toNat od0).h.st = 1)

theorem sold_out {l : List Od.Oo} {n : Int} (h : inB n 1 l.length = false) : soldB l n = false := by
  unfold soldB
  rw [h]
  rfl

theorem sold_in {l : List Od.Oo} {n : Int} (h : inB n 1 l.length = true) : ∃ k, ∃ hk : k < l.length, n = (k : Int) + 1 ∧ soldB l n = decide (l[k].h.st = 1) := by
  obtain ⟨h1, h2⟩ := in_is.1 h
  refine ⟨(n - 1).toNat, by omega, by omega, ?_⟩
  unfold soldB
  rw [h, Bool.true_and, List.getD_eq_getElem?_getD, List.getElem?_eq_getElem (by omega), Option.getD_some]

/-- Whether order i has the number i + 1. -/
def idsB (l : List Od.Oo) : Bool := (List.range l.length).all fun i => decide ((l.getD i od0).h.id = (i : Int) + 1)

theorem getD_at (l : List Od.Oo) (k : Nat) (h : k < l.length) : l.getD k od0 = l[k] := by
  rw [List.getD_eq_getElem?_getD, List.getElem?_eq_getElem h, Option.getD_some]

theorem ids_yes {l : List Od.Oo} (h : ∀ i, i < l.length → (l.getD i od0).h.id = (i : Int) + 1) : idsB l = true := by
  unfold idsB
  rw [List.all_eq_true]
  intro i hi
  exact decide_eq_true (h i (List.mem_range.1 hi))

theorem ids_no {l : List Od.Oo} {k : Nat} (hk : k < l.length) (h : ¬ (l.getD k od0).h.id = (k : Int) + 1) : idsB l = false := by
  cases e : idsB l
  · rfl
  · exfalso
    unfold idsB at e
    rw [List.all_eq_true] at e
    exact h (of_decide_eq_true (e k (List.mem_range.2 hk)))

/-- No reply. -/
def rp0 : Rp.Rr := ⟨0, 0, 0, 0⟩

/-- The request of a reply. -/
def rqAt (l : List Rp.Rr) (i : Nat) : Int := (l.getD i rp0).rq

theorem rq_at (l : List Rp.Rr) (k : Nat) (h : k < l.length) : rqAt l k = l[k].rq := by
  unfold rqAt
  rw [List.getD_eq_getElem?_getD, List.getElem?_eq_getElem h, Option.getD_some]

/-- Of the first k replies no two are of one request. -/
def Dis (l : List Rp.Rr) (k : Nat) : Prop := ∀ i j, i < k → j < i → rqAt l i ≠ rqAt l j

/-- Whether no two replies are of one request. -/
def disB (l : List Rp.Rr) : Bool := (List.range l.length).all fun i => (List.range i).all fun j => decide (rqAt l i ≠ rqAt l j)

theorem dis_yes {l : List Rp.Rr} (h : Dis l l.length) : disB l = true := by
  unfold disB
  rw [List.all_eq_true]
  intro i hi
  rw [List.all_eq_true]
  intro j hj
  exact decide_eq_true (h i j (List.mem_range.1 hi) (List.mem_range.1 hj))

theorem dis_no {l : List Rp.Rr} (h : ¬ Dis l l.length) : disB l = false := by
  cases e : disB l
  · rfl
  · exfalso
    apply h
    intro i j hi hj
    unfold disB at e
    rw [List.all_eq_true] at e
    have e1 := e i (List.mem_range.2 hi)
    rw [List.all_eq_true] at e1
    exact of_decide_eq_true (e1 j (List.mem_range.2 hj))

theorem dis_two {l : List Rp.Rr} {i j : Nat} (hi : i < l.length) (hj : j < i) (h : rqAt l i = rqAt l j) : disB l = false := dis_no fun d => d i j hi hj h

/-- All replies but the number of them. -/
def idsOk (l : List Od.Oo) : Bool := idsB l && decide ((l.length : Int) ≤ 100)
def toldOk (l : List Rp.Rr) : Bool := disB l && decide ((l.length : Int) ≤ 300)

theorem ret_b {a b : Bool} (h : b = a) : Ending.returned (.bool a) = .returned (.bool b) := by rw [h]

abbrev zeroB (ty : TypeId) : Obj := .cells #[.int .i64 0, .int .i64 0, .string ⟨#[]⟩, .int .i64 0, .int .i64 0, .slice none 0 0, .int .i64 0, .int .i64 0, .int .i64 0] ty

set_option maxHeartbeats 2000000 in
theorem soldOrder_val (a : Option Addr) (l : List Od.Oo) (cap : Nat) (n : Int) (w : World) (hl : l.length ≤ maxLen) (I : Od.Orders w a l) :
    Calls Tryz.prog 78 #[.slice a l.length cap, .int .i64 n] w fun e w' => (∃ t b m c, e = .returned (.tuple #[Od.odV t b m c, .bool (soldB l n)])) ∧ Below w.heap.size w w' := by
  unfold maxLen at hl
  have N := new_below w (zeroB 101)
  have m0 := heap_new w (zeroB 101)
  have z0 : (w.alloc (zeroB 101)).cell? ⟨w.heap.size, 0, none⟩ = some (.int .i64 0) := cell_at m0 0
  have z1 : (w.alloc (zeroB 101)).cell? ⟨w.heap.size, 1, none⟩ = some (.int .i64 0) := cell_at m0 1
  have z2 : (w.alloc (zeroB 101)).cell? ⟨w.heap.size, 2, none⟩ = some (.string ⟨#[]⟩) := cell_at m0 2
  have z3 : (w.alloc (zeroB 101)).cell? ⟨w.heap.size, 3, none⟩ = some (.int .i64 0) := cell_at m0 3
  have z4 : (w.alloc (zeroB 101)).cell? ⟨w.heap.size, 4, none⟩ = some (.int .i64 0) := cell_at m0 4
  have z5 : (w.alloc (zeroB 101)).cell? ⟨w.heap.size, 5, none⟩ = some (.slice none 0 0) := cell_at m0 5
  have z6 : (w.alloc (zeroB 101)).cell? ⟨w.heap.size, 6, none⟩ = some (.int .i64 0) := cell_at m0 6
  have z7 : (w.alloc (zeroB 101)).cell? ⟨w.heap.size, 7, none⟩ = some (.int .i64 0) := cell_at m0 7
  have z8 : (w.alloc (zeroB 101)).cell? ⟨w.heap.size, 8, none⟩ = some (.int .i64 0) := cell_at m0 8
  have y0 : (w.alloc (zeroB 101)).frozen? ⟨w.heap.size, 0, none⟩ = false := frozen_at m0 0
  have y1 : (w.alloc (zeroB 101)).frozen? ⟨w.heap.size, 1, none⟩ = false := frozen_at m0 1
  have y2 : (w.alloc (zeroB 101)).frozen? ⟨w.heap.size, 2, none⟩ = false := frozen_at m0 2
  have y3 : (w.alloc (zeroB 101)).frozen? ⟨w.heap.size, 3, none⟩ = false := frozen_at m0 3
  have y4 : (w.alloc (zeroB 101)).frozen? ⟨w.heap.size, 4, none⟩ = false := frozen_at m0 4
  have y5 : (w.alloc (zeroB 101)).frozen? ⟨w.heap.size, 5, none⟩ = false := frozen_at m0 5
  have y6 : (w.alloc (zeroB 101)).frozen? ⟨w.heap.size, 6, none⟩ = false := frozen_at m0 6
  have y7 : (w.alloc (zeroB 101)).frozen? ⟨w.heap.size, 7, none⟩ = false := frozen_at m0 7
  have y8 : (w.alloc (zeroB 101)).frozen? ⟨w.heap.size, 8, none⟩ = false := frozen_at m0 8
  have I0 := I.on N
  cases hb : inB n 1 l.length
  · have HB : Hid (∀ w, _) := fun w => Se.btw_no n 1 l.length w hb
    rw [sold_out hb]
    clear hb
    go_enter Tryz.func78, Tryz.ntmps78
    go_wp2_with fail
    refine (HB.out _).mono ?_
    rintro e w1 ⟨rfl, rfl⟩
    generalize w.alloc (zeroB 101) = W at *
    go_wp2
    refine bodyPost_ret (v := .tuple #[Od.odV ⟨0, 0, ⟨#[]⟩, 0, 0, 0, 0, 0⟩ none 0 0, .bool false]) (by first | (simp [results, Tryz.results78, go_sem, z0, z1, z2, z3, z4, z5, z6, z7, z8]; done) | (simp [results, Tryz.results78, go_sem, z0, z1, z2, z3, z4, z5, z6, z7, z8]; rfl)) rfl ?_
    refine ⟨⟨_, _, _, _, rfl⟩, ?_⟩
    (repeat' (first | apply Below.setCell | exact N)) <;> exact Nat.le_refl _
  · have HB : Hid (∀ w, _) := fun w => Se.btw_yes n 1 l.length w hb
    obtain ⟨k, hk, rfl, hs⟩ := sold_in hb
    rw [hs]
    clear hs hb
    obtain ⟨b, u, ai, ci, rfl, hlt, c0, c1, c2, c3, c4, c6, c7, c8, c5, J⟩ := I0.at k hk
    have hk1 : wrap64 ((k : Int) + 1 - 1) = (k : Int) := by rw [show (k : Int) + 1 - 1 = k by omega]; unfold wrap64; omega
    have hk2 : IntKind.i64.wrap ((k : Int) + 1 - 1) = (k : Int) := by rw [show (k : Int) + 1 - 1 = k by omega, IntKind.wrap_i64]; omega
    cases hd : decide (l[k].h.st = 1)
    · have hne : ¬ l[k].h.st = 1 := of_decide_eq_false hd
      have hq : (l[k].h.st == 1) = false := by simpa using hne
      clear hd
      generalize l[k].l.length = m at *
      generalize l[k].h = p at *
      go_enter Tryz.func78, Tryz.ntmps78
      go_wp2_with fail
      refine (HB.out _).mono ?_
      rintro e w1 ⟨rfl, rfl⟩
      generalize w.alloc (zeroB 101) = W at *
      go_wp2
      refine bodyPost_ret (v := .tuple #[Od.odV ⟨0, 0, ⟨#[]⟩, 0, 0, 0, 0, 0⟩ none 0 0, .bool false]) (by first | (simp [results, Tryz.results78, go_sem, z0, z1, z2, z3, z4, z5, z6, z7, z8]; done) | (simp [results, Tryz.results78, go_sem, z0, z1, z2, z3, z4, z5, z6, z7, z8]; rfl)) rfl ?_
      refine ⟨⟨_, _, _, _, rfl⟩, ?_⟩
      (repeat' (first | apply Below.setCell | exact N)) <;> exact Nat.le_refl _
    · have hne : l[k].h.st = 1 := of_decide_eq_true hd
      have hq : (l[k].h.st == 1) = true := by simpa using hne
      clear hd hne
      generalize l[k].l.length = m at *
      generalize l[k].h = p at *
      go_enter Tryz.func78, Tryz.ntmps78
      go_wp2_with fail
      refine (HB.out _).mono ?_
      rintro e w1 ⟨rfl, rfl⟩
      generalize w.alloc (zeroB 101) = W at *
      go_wp2
      refine bodyPost_ret (v := .tuple #[Od.odV p ai m ci, .bool true]) (by first | (simp [results, Tryz.results78, go_sem, z0, z1, z2, z3, z4, z5, z6, z7, z8]; done) | (simp [results, Tryz.results78, go_sem, z0, z1, z2, z3, z4, z5, z6, z7, z8]; rfl)) rfl ?_
      refine ⟨⟨_, _, _, _, rfl⟩, ?_⟩
      (repeat' (first | apply Below.setCell | exact N)) <;> exact Nat.le_refl _

set_option maxHeartbeats 2000000 in
theorem ordersOk_val (a : Option Addr) (l : List Od.Oo) (cap : Nat) (w : World) (hl : l.length ≤ maxLen) (I : Od.Orders w a l) :
    Calls Tryz.prog 76 #[.slice a l.length cap] w fun e w' => e = .returned (.bool (idsOk l)) ∧ Below w.heap.size w w' := by
  unfold maxLen at hl
  go_enter Tryz.func76, Tryz.ntmps76
  go_wp2
  go_loopw [7] (fun i wr => ∃ k : Nat, k ≤ l.length ∧ i = .int .i64 k ∧ Below w.heap.size w wr ∧ Hid (∀ i, i < k → (l.getD i od0).h.id = (i : Int) + 1)) (fun i _ => l.length - (intOf i).toNat)
  case atStart => exact ⟨0, by omega, rfl, Below.refl _ _, fun i h => by omega⟩
  case round =>
    obtain ⟨k, hk, rfl, L, H⟩ := hrel
    by_cases hkn : k < l.length
    · obtain ⟨b, u, ai, ci, rfl, hlt, c0, c1, c2, c3, c4, c6, c7, c8, c5, J⟩ := (I.on L).at k hkn
      have hg := getD_at l k hkn
      have L2 := join_below L (new_below wr (Od.odB l[k].h ai l[k].l.length ci 101))
      by_cases he : l[k].h.id = (k : Int) + 1
      · have HS : Hid (∀ i, i < k + 1 → (l.getD i od0).h.id = (i : Int) + 1) := by
          intro i hi
          by_cases e : i = k
          · subst e; rw [hg]; exact he
          · exact H.out i (by omega)
        have hq : (l[k].h.id == (k : Int) + 1) = true := by simpa using he
        clear he H hg
        generalize l[k].l.length = m at *
        generalize l[k].h = p at *
        go_wp2
        go_roundw
        case rel => exact ⟨k + 1, by omega, by go_num, L2, HS⟩
        case measure => simp [intOf]; omega
      · have HS : Hid (idsOk l = false) := by show _ = _; unfold idsOk; rw [ids_no hkn (by rw [hg]; exact he)]; rfl
        have hq : (l[k].h.id == (k : Int) + 1) = false := by simpa using he
        clear he H hg
        generalize l[k].l.length = m at *
        generalize l[k].h = p at *
        go_wp2
        go_ret
        exact ⟨ret_b HS.out, L2⟩
    · obtain rfl : k = l.length := by omega
      have HS : Hid (idsOk l = decide ((l.length : Int) ≤ 100)) := by show _ = _; unfold idsOk; rw [ids_yes H.out]; rfl
      clear H
      go_wp2
      go_ret
      exact ⟨ret_b HS.out, L⟩

theorem klaw : Keyed Tryz.prog 3 := Maps.int_keyed Tryz.underlying3

abbrev kk (k : Int) : Lit := .int .i64 k

theorem kk_of {k : Int} (h : (kk k).wf = true) : keyOf Tryz.prog 3 (.int .i64 k) = some (kk k) := Maps.keyOf_int_mk Tryz.underlying3 h

theorem kk_lit {k : Int} (h : (kk k).wf = true) : WideAt.IsKeyLit (kk k) := klaw.key (kk_of h)

theorem kk_ne {a b : Int} (h : a ≠ b) : kk a ≠ kk b := by
  intro e
  cases e
  exact h rfl

/-- Block b is a map whose keys are the requests of the first k replies: as many of them as there are different ones. -/
def Cn (w : World) (b k : Nat) (l : List Rp.Rr) : Prop := ∃ es : List (Lit × DataW Value), w.ownsMap Tryz.prog 3 (plainElem (H := Value) Tryz.prog 3) b k (.map es) ∧ (∀ z, (kk z).wf = true → (Maps.has (.map es) (kk z) = true ↔ ∃ i, i < k ∧ rqAt l i = z)) ∧ (Dis l k → es.length = k) ∧ (¬ Dis l k → es.length < k)

theorem Cn.lt {w : World} {b k : Nat} {l : List Rp.Rr} (h : Cn w b k l) : b < w.heap.size := by obtain ⟨es, h, -⟩ := h; exact h.lt

theorem Cn.on {w w1 : World} {b k B : Nat} {l : List Rp.Rr} (h : Cn w b k l) (L : Below B w w1) (hb : b < B) : Cn w1 b k l := by
  obtain ⟨es, ⟨xs, clock, hh, r⟩, q⟩ := h
  exact ⟨es, ⟨xs, clock, (L.block b hb).trans hh, r⟩, q⟩

theorem cn_made (w : World) (l : List Rp.Rr) : Cn (w.alloc (.map #[] 0)) w.heap.size 0 l :=
  ⟨[], World.ownsMap_made w _ _ _, fun z hz => ⟨fun h => (by cases h), fun ⟨i, h, _⟩ => (by omega)⟩, fun _ => rfl, fun h => absurd (fun i j hi => by omega) h⟩

theorem zeroI (w : World) : (zeroValue 3).run Tryz.prog w = .ok (.int .i64 0) w := by kernel_rfl

theorem put_len_new (es : List (Lit × DataW Value)) (k : Lit) (d : DataW Value) (h : Maps.has (.map es) k = false) : (ChangeMaps.putKey k d es).length = es.length + 1 := by
  unfold ChangeMaps.putKey
  rw [length_insert]
  congr 1
  rw [List.filter_eq_self.2]
  intro p hp
  rw [Maps.has_eq, List.any_eq_false] at h
  unfold ChangeMaps.notKey
  simpa using h p hp

theorem put_len_old (es : List (Lit × DataW Value)) (k : Lit) (d : DataW Value) (h : Maps.has (.map es) k = true) : (ChangeMaps.putKey k d es).length ≤ es.length := by
  unfold ChangeMaps.putKey
  rw [length_insert]
  rw [Maps.has_eq, List.any_eq_true] at h
  obtain ⟨p, hp, hk⟩ := h
  have : (es.filter (ChangeMaps.notKey k)).length < es.length := by
    apply Nat.lt_of_not_le
    intro hle
    have := List.length_filter_eq_length_iff.1 (Nat.le_antisymm (List.length_filter_le _ _) hle) p hp
    unfold ChangeMaps.notKey at this
    rw [hk] at this
    cases this
  omega

/-- A reply more. -/
theorem Cn.put {w w' : World} {b k : Nat} {l : List Rp.Rr} (hk : k < l.length) (hw : (kk (rqAt l k)).wf = true) {es : List (Lit × DataW Value)} (h1 : w.ownsMap Tryz.prog 3 (plainElem (H := Value) Tryz.prog 3) b k (.map es)) (h2 : ∀ z, (kk z).wf = true → (Maps.has (.map es) (kk z) = true ↔ ∃ i, i < k ∧ rqAt l i = z)) (h3 : Dis l k → es.length = k) (h4 : ¬ Dis l k → es.length < k) {d : DataW Value} (r : w'.ownsMap Tryz.prog 3 (plainElem (H := Value) Tryz.prog 3) b (k + 1) ((DataW.map es).put (kk (rqAt l k)) d)) : Cn w' b (k + 1) l := by
  refine ⟨ChangeMaps.putKey (kk (rqAt l k)) d es, r, fun z hz => ?_, fun hd => ?_, fun hd => ?_⟩
  · by_cases e : z = rqAt l k
    · subst e
      have := Maps.has_put_same h1.isMap (kk_lit hz) d
      rw [DataW.put_eq] at this
      rw [this]
      exact ⟨fun _ => ⟨k, by omega, rfl⟩, fun _ => rfl⟩
    · have := Maps.has_put_other (D := DataW.map es) (d := d) (kk_ne e)
      rw [DataW.put_eq] at this
      rw [this, h2 z hz]
      constructor
      · rintro ⟨i, hi, hr⟩
        exact ⟨i, by omega, hr⟩
      · rintro ⟨i, hi, hr⟩
        refine ⟨i, ?_, hr⟩
        apply Nat.lt_of_not_le
        intro hle
        obtain rfl : i = k := by omega
        exact e hr.symm
  · have hdk : Dis l k := fun i j hi hj => hd i j (by omega) hj
    rw [put_len_new, h3 hdk]
    cases hh : Maps.has (DataW.map es) (kk (rqAt l k))
    · rfl
    · exfalso
      obtain ⟨i, hi, hr⟩ := (h2 _ hw).1 hh
      exact hd k i (by omega) hi hr.symm
  · cases hh : Maps.has (DataW.map es) (kk (rqAt l k))
    · rw [put_len_new _ _ _ hh]
      have hdk : ¬ Dis l k := by
        intro hdk
        apply hd
        intro i j hi hj
        by_cases e : i = k
        · subst e
          intro hr
          have := (h2 _ hw).2 ⟨j, hj, hr.symm⟩
          rw [hh] at this
          cases this
        · exact hdk i j (by omega) hj
      have := h4 hdk
      omega
    · have := put_len_old es _ d hh
      have h5 : es.length ≤ k := by
        by_cases hdk : Dis l k
        · exact Nat.le_of_eq (h3 hdk)
        · exact Nat.le_of_lt (h4 hdk)
      omega

theorem mk_map (w : World) : (Instr.makeMap 143 none).run Tryz.prog w = .ok (.map (some w.heap.size)) (w.alloc (.map #[] 0)) := by simp [Instr.makeMap, go_sem]

theorem wp_len {w : World} {o : Oper} {a : Act} {K : Act → World → Prop} {Q : Exit → Act → World → Prop} (m : Operand) (ho : o.op = Op.call { callee := Callee.builtin Builtin.len, args := #[m], argTypes := #[143] }) (b n : Nat) (es : List (Lit × DataW Value)) (hm : a.eval m = .map (some b)) (I : w.ownsMap Tryz.prog 3 (plainElem (H := Value) Tryz.prog 3) b n (.map es))
    (h : K (a.put o.dst (.int .i64 (es.length : Int))) w) : o.wp Tryz.prog a w K Q := by
  have hr := I.len Tryz.underlying143 o.type
  unfold Oper.wp
  simp [execOp, ho, resolve, invoke, builtin, hm, hr, Result.andThen]
  exact h

theorem Cn.step {w : World} {b k : Nat} {l : List Rp.Rr} (h : Cn w b k l) (hk : k < l.length) (hl : l.length ≤ 1048576) (hw : (kk (rqAt l k)).wf = true) :
    ∃ c w', (Instr.lookup 143 (.map (some b)) (.int .i64 (rqAt l k)) false).run Tryz.prog w = .ok (.int .i64 c) w ∧ (Instr.mapUpdate 143 (.map (some b)) (.int .i64 (rqAt l k)) (.int .i64 (wrap64 (c + 1)))).run Tryz.prog w = .ok () w' ∧ Cn w' b (k + 1) l ∧ w.grownBy w' (some b) := by
  obtain ⟨es, h1, h2, h3, h4⟩ := h
  obtain ⟨c, hrun, -, -⟩ := h1.lookup_int klaw Tryz.underlying143 Tryz.underlying3 (zeroI w) (kk_of hw)
  obtain ⟨w', hst, r1, r2⟩ := h1.update klaw Tryz.underlying143 (by unfold maxLen; omega) (kk_of hw) (val := .int .i64 (wrap64 (c + 1))) (plainElem_int Tryz.underlying3 (RowKit.wrap64_wf _))
  exact ⟨c, w', hrun, hst, Cn.put hk hw h1 h2 h3 h4 r1, r2⟩

set_option maxHeartbeats 2000000 in
theorem toldOk_val (a : Option Addr) (l : List Rp.Rr) (cap : Nat) (w : World) (hl : l.length ≤ 1048576) (I : Rp.Replys w a l) (hwf : Rp.Wfs l) :
    Calls Tryz.prog 77 #[.slice a l.length cap] w fun e w' => e = .returned (.bool (toldOk l)) ∧ Below w.heap.size w w' := by
  have hmk := mk_map
  have M0 := cn_made w l
  have N := new_below w (.map #[] 0)
  go_enter Tryz.func77, Tryz.ntmps77
  go_wp2
  generalize w.alloc (.map #[] 0) = W at *
  go_loopw [9] (fun i wr => ∃ k : Nat, k ≤ l.length ∧ i = .int .i64 k ∧ Below w.heap.size w wr ∧ Hid (Cn wr w.heap.size k l)) (fun i _ => l.length - (intOf i).toNat)
  case atStart => exact ⟨0, by omega, rfl, N, M0⟩
  case round =>
    obtain ⟨k, hk, rfl, L, H⟩ := hrel
    by_cases hkn : k < l.length
    · obtain ⟨b, u, rfl, hlt, c0, c1, c2, c3⟩ := (I.on L).at k hkn
      have NB := new_below wr (.cells #[.int .i64 l[k].rq, .int .i64 l[k].sa, .int .i64 l[k].od, .int .i64 l[k].am] 103)
      have x := heap_new wr (.cells #[.int .i64 l[k].rq, .int .i64 l[k].sa, .int .i64 l[k].od, .int .i64 l[k].am] 103)
      have L1 := join_below L NB
      have hw : (kk (rqAt l k)).wf = true := by rw [rq_at l k hkn]; exact (hwf _ (List.getElem_mem hkn)).rq
      obtain ⟨c, w2, hrun, hst, C2, hg⟩ := (H.out.on NB H.out.lt).step hkn hl hw
      have L2 : Below w.heap.size w w2 := L1.grown hg (L1.size) (fun q hq => by cases hq; exact Nat.le_refl _)
      have HC : Hid (Cn w2 w.heap.size (k + 1) l) := C2
      rw [rq_at l k hkn] at hrun hst
      have d0 : (wr.alloc (.cells #[.int .i64 l[k].rq, .int .i64 l[k].sa, .int .i64 l[k].od, .int .i64 l[k].am] 103)).cell? ⟨wr.heap.size, 0, none⟩ = some (.int .i64 l[k].rq) := cell_at x 0
      clear hw C2 hg H NB L1 x
      generalize l[k] = p at *
      go_wp2
      go_roundw
      case rel => exact ⟨k + 1, by omega, by go_num, L2, HC⟩
      case measure => simp [intOf]; omega
    · obtain rfl : k = l.length := by omega
      obtain ⟨es, h1, h2, h3, h4⟩ := H.out
      have HO : Hid (wr.ownsMap Tryz.prog 3 (plainElem (H := Value) Tryz.prog 3) w.heap.size l.length (.map es)) := h1
      have hR : toldOk l = (decide ((es.length : Int) = (l.length : Int)) && decide ((l.length : Int) ≤ 300)) := by
        unfold toldOk
        congr 1
        by_cases hd : Dis l l.length
        · rw [dis_yes hd, h3 hd]; simp
        · rw [dis_no hd]
          have := h4 hd
          exact (decide_eq_false (by omega)).symm
      have HR : Hid (toldOk l = (decide ((es.length : Int) = (l.length : Int)) && decide ((l.length : Int) ≤ 300))) := hR
      clear hR h1 h2 h3 h4 H
      cases hq : decide ((es.length : Int) = (l.length : Int))
      · have e0 : ((es.length : Int) == (l.length : Int)) = false := by have := of_decide_eq_false hq; simpa using this
        have HQ : Hid (decide ((es.length : Int) = (l.length : Int)) = false) := hq
        clear hq
        go_wp2_with (first | (at_len; refine wpList_plain rfl fun K hK => ?_; refine wp_len _ rfl w.heap.size l.length es rfl HO.out ?_; refine hK _ _ ?_; clear hK K) | go_in)
        go_ret
        exact ⟨ret_b (by rw [HR.out, HQ.out]; rfl), L⟩
      · have e0 : ((es.length : Int) == (l.length : Int)) = true := by have := of_decide_eq_true hq; simpa using this
        have HQ : Hid (decide ((es.length : Int) = (l.length : Int)) = true) := hq
        clear hq
        go_wp2_with (first | (at_len; refine wpList_plain rfl fun K hK => ?_; refine wp_len _ rfl w.heap.size l.length es rfl HO.out ?_; refine hK _ _ ?_; clear hK K) | go_in)
        go_ret
        exact ⟨ret_b (by rw [HR.out, HQ.out]; rfl), L⟩

end Of
end Go.Proofs.YtmoinacceildcaaGreatDoor
