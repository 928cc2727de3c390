/- A row of cells that is written field by field while all else of the call's own is kept. -/
import Derived.Test.YtkhibgicejcmlamSqTurnM
import Derived.Test.YtkhibgicejcmlamShelf
namespace Go.Proofs.Ytkhibgicejcmlam
namespace Sq
open Go.ChangeShapes Go.WideShapes Go.ChangeAt Go.RowKit
set_option linter.unusedSimpArgs false
set_option linter.unusedVariables false

/-- The first c cells of block g. -/
def Cl (w : World) (g c : Nat) (f : Nat → Value) : Prop := ∀ j, j < c → w.cell? ⟨g, j, none⟩ = some (f j) ∧ w.frozen? ⟨g, j, none⟩ = false

theorem Cl.of_tab {w : World} {g c : Nat} {f : Nat → Value} {t : TypeId} (h : w.heap[g]? = some (.cells (tab c f) t)) : Cl w g c f := fun j hj => ⟨row_at h j hj, Pk.frozen_at h j⟩

theorem Cl.congr {w : World} {g c : Nat} {f f' : Nat → Value} (h : Cl w g c f) (e : ∀ j, j < c → f' j = f j) : Cl w g c f' := fun j hj => ⟨by rw [(h j hj).1, e j hj], (h j hj).2⟩

theorem Cl.set {w : World} {g c : Nat} {f f' : Nat → Value} (h : Cl w g c f) (i : Nat) (u : Value) (e : ∀ j, j < c → f' j = if j = i then u else f j) : Cl (w.setCell ⟨g, i, none⟩ u) g c f' := by
  intro j hj
  refine ⟨?_, by rw [World.frozen?_setCell]; exact (h j hj).2⟩
  by_cases k : j = i
  · subst k
    rw [World.cell?_setCell_same _ _ _ (h j hj).1, e j hj, if_pos rfl]
  · rw [World.cell?_setCell_other _ _ _ _ (by intro h; apply k; simpa using h.symm), (h j hj).1, e j hj, if_neg k]

theorem Cl.on {w w1 : World} {g c B : Nat} {f : Nat → Value} (h : Cl w g c f) (L : Below B w w1) (hg : g < B) : Cl w1 g c f := fun j hj => ⟨by rw [L.cell hg]; exact (h j hj).1, by rw [L.frozen hg]; exact (h j hj).2⟩

/-- The text of bytes in cells. -/
theorem Cl.text {w : World} {g c cap : Nat} {f : Nat → Value} {b : Nat → UInt8} (h : Cl w g c f) (hf : ∀ j, j < c → f j = .int .u8 ((b j).toNat : Int)) :
    (convert 50 9 (.slice (some ⟨g, 0, none⟩) c cap)).run Try.prog w = .ok (.string (strT c b)) w := by
  have hl : ((List.range c).map b).length = c := by simp
  have := run_convert_bytes_back (P := Try.prog) w 50 9 5 ⟨g, 0, none⟩ cap ((List.range c).map b) Try.underlying50 Try.underlying5 Try.underlying9 (by
    intro j hj0
    have hj : j < c := by omega
    rw [show Addr.add ⟨g, 0, none⟩ j = ⟨g, j, none⟩ from by simp [Addr.add]; exact Eq.symm]
    rw [(h j hj).1, hf j hj]
    simp)
  rw [hl] at this
  exact this

/-- A row at block g, all else of the world W kept. -/
structure Run (B : Nat) (w W wr : World) (g c : Nat) (f : Nat → Value) : Prop where
  below : Below B w wr
  kp : ∀ k, k < W.heap.size → k ≠ g → wr.heap[k]? = W.heap[k]?
  size : W.heap.size ≤ wr.heap.size
  glt : g < W.heap.size
  gB : B ≤ g
  row : Cl wr g c f

theorem Run.start {B : Nat} {w W : World} {g c : Nat} {f : Nat → Value} (L : Below B w W) (hg : g < W.heap.size) (hB : B ≤ g) (h : Cl W g c f) : Run B w W W g c f := ⟨L, fun _ _ _ => rfl, Nat.le_refl _, hg, hB, h⟩

theorem Run.on {B : Nat} {w W wr x : World} {g c : Nat} {f : Nat → Value} (R : Run B w W wr g c f) (L : Below wr.heap.size wr x) : Run B w W x g c f := by
  have h1 := R.size
  have h2 := R.glt
  have h3 := R.gB
  exact ⟨R.below.trans (L.mono (by omega)), fun k hk hg => (L.block k (by omega)).trans (R.kp k hk hg), Nat.le_trans R.size L.size, R.glt, R.gB, R.row.on L (by omega)⟩

theorem Run.drew {B : Nat} {w W wr : World} {g c : Nat} {f : Nat → Value} (R : Run B w W wr g c f) : Run B w W wr.drew g c f := ⟨R.below.drew, R.kp, R.size, R.glt, R.gB, R.row⟩

theorem Run.set {B : Nat} {w W wr : World} {g c : Nat} {f f' : Nat → Value} (R : Run B w W wr g c f) (i : Nat) (u : Value) (e : ∀ j, j < c → f' j = if j = i then u else f j) : Run B w W (wr.setCell ⟨g, i, none⟩ u) g c f' :=
  ⟨R.below.setCell R.gB u, fun k hk hg => (Below.heap_setCell wr ⟨g, i, none⟩ u k hg).trans (R.kp k hk hg), by rw [World.size_setCell]; exact R.size, R.glt, R.gB, R.row.set i u e⟩

theorem Run.keep {B : Nat} {w W wr : World} {g c : Nat} {f : Nat → Value} (R : Run B w W wr g c f) {k : Nat} {o : Obj} (m : W.heap[k]? = some o) (hk : k ≠ g) : wr.heap[k]? = some o := by
  rw [R.kp k (Pk.lt_of m) hk]
  exact m

theorem sign_u8 (b : UInt8) : (.int .u8 ((b.toNat : Nat) : Int) : Value) = .int .u8 (b.toNat : Int) := rfl

theorem strings_Clone (s : ByteArray) (w : World) (hlim : s.size ≤ 281474976710656) :
    Calls Try.prog 56 #[.string s] w fun e w' => e = .returned (.string s) ∧ Below w.heap.size w w' := by
  go_enter Try.func56, Try.ntmps56
  go_wp2_with fail
  refine (Try.stringslite_Clone s _ hlim).mono ?_
  rintro e w1 ⟨rfl, L⟩
  go_wp2
  go_ret
  exact ⟨rfl, L⟩

/-- A square's box, and the box of an answer. -/
def Box (W : World) (b : Nat) (n : Int) (s : ByteArray) : Prop := W.heap[b]? = some (.cells #[.int .i64 n, .string s] 25)

theorem box2 (w : World) (n : Int) (s : ByteArray) :
    Box ((w.alloc (.cells #[.int .i64 n, .string s] 25)).alloc (.cells #[.int .i64 0, .string ⟨#[]⟩] 25)) w.heap.size n s ∧
    Box ((w.alloc (.cells #[.int .i64 n, .string s] 25)).alloc (.cells #[.int .i64 0, .string ⟨#[]⟩] 25)) (w.heap.size + 1) 0 ⟨#[]⟩ ∧
    Below w.heap.size w ((w.alloc (.cells #[.int .i64 n, .string s] 25)).alloc (.cells #[.int .i64 0, .string ⟨#[]⟩] 25)) := by
  have m0 := Pk.heap_new w (.cells #[.int .i64 n, .string s] 25)
  have m1 := Pk.heap_new (w.alloc (.cells #[.int .i64 n, .string s] 25)) (.cells #[.int .i64 0, .string ⟨#[]⟩] 25)
  refine ⟨Pk.heap_old m0 _, ?_, ((Below.refl _ _).alloc (Nat.le_refl _) _).alloc (by simp) _⟩
  unfold Box
  have e : (w.alloc (.cells #[.int .i64 n, .string s] 25)).heap.size = w.heap.size + 1 := by simp
  rw [e] at m1
  exact m1

theorem Box.n {W : World} {b : Nat} {n : Int} {s : ByteArray} (h : Box W b n s) : W.cell? ⟨b, 0, none⟩ = some (.int .i64 n) := Pk.cell_at h 0

theorem Box.s {W : World} {b : Nat} {n : Int} {s : ByteArray} (h : Box W b n s) : W.cell? ⟨b, 1, none⟩ = some (.string s) := Pk.cell_at h 1

theorem Box.f {W : World} {b : Nat} {n : Int} {s : ByteArray} (h : Box W b n s) (i : Nat) : W.frozen? ⟨b, i, none⟩ = false := Pk.frozen_at h i

theorem Box.on {W x : World} {b : Nat} {n : Int} {s : ByteArray} (h : Box W b n s) (L : Below W.heap.size W x) : Box x b n s := Pk.kept L (Pk.lt_of h) h

theorem Box.drew {W : World} {b : Nat} {n : Int} {s : ByteArray} (h : Box W b n s) : Box W.drew b n s := h

set_option maxRecDepth 100000 in
theorem copied_val (n : Int) (s : ByteArray) (w : World) (hs : s.size ≤ 281474976710656) :
    Calls Try.prog 30 #[sqV n s] w fun e w' => e = .returned (sqV n s) ∧ Below w.heap.size w w' := by
  have HC : Hid (∀ w, _) := fun w => strings_Clone s w hs
  unfold sqV
  obtain ⟨m0, m1, N⟩ := box2 w n s
  go_enter Try.func30, Try.ntmps30
  go_wp2
  generalize (w.alloc (.cells #[.int .i64 n, .string s] 25)).alloc (.cells #[.int .i64 0, .string ⟨#[]⟩] 25) = W at *
  have c0 := m0.n
  have c1 := m0.s
  have d0 := m1.n
  have d1 := m1.s
  have f0 := m1.f 0
  have f1 := m1.f 1
  go_region_held3 (fun w' => w'.cell? ⟨w.heap.size, 0, none⟩ = some (.int .i64 n) ∧ w'.cell? ⟨w.heap.size, 1, none⟩ = some (.string s)) (go_keep) (first
    | (go_at_call 56; refine (HC.out _).mono ?_; rintro e x1 ⟨rfl, L1⟩; have L2 : Below W.heap.size W x1 := (by first | exact L1 | exact ((Below.refl _ _).drew).trans L1); have p0 := (m0.on L2).n; have p1 := (m0.on L2).s; have q0 := (m1.on L2).n; have q1 := (m1.on L2).s; have g0 := (m1.on L2).f 0; have g1 := (m1.on L2).f 1; have N2 := Pk.join_below N L2))
  all_goals
    go_wp2
    refine bodyPost_ret (v := .agg #[.int .i64 n, .string s]) (by simp [results, Try.results30, go_sem, q0, q1]) rfl ?_
    exact ⟨rfl, (N2.setCell (Nat.le_succ _) _).setCell (Nat.le_succ _) _⟩

end Sq
end Go.Proofs.Ytkhibgicejcmlam
