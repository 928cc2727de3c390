/- Lines of wants: the numbers of a want, and what WantLine answers. -/
import Derived.Test.YtdfejmaekdgcdasDoorTkPut
import Derived.Test.YtdfejmaekdgcdasDoorTnRides
namespace Go.Proofs.YtdfejmaekdgcdasDoor
namespace Wn
open Go.ChangeShapes Go.WideShapes Go.ChangeAt Go.RowKit
open Pk (new_below join_below cell_at heap_new heap_old frozen_at lt_of kept info_of own_ge own_below own_form own_at)
open Num (decS Tens)
open Tk (inB nameB ws Nums RowZ decS_size ba_assoc ba_size ws_take)
open Rd (Ri Rides)
set_option linter.unusedSimpArgs false
set_option linter.unusedVariables false

/-- The numbers of a want ahead of its rides. -/
structure Wh where
  kd : Int
  rq : Int
  od : Int
  cl : Int
  cd : Int

/-- A want as a value. -/
abbrev wnV (h : Wh) (s : ByteArray) (a : Option Addr) (n cap : Nat) : Value := .agg #[.int .i64 h.kd, .int .i64 h.rq, .int .i64 h.od, .string s, .int .i64 h.cl, .int .i64 h.cd, .slice a n cap]

/-- It as a box. -/
abbrev wnB (h : Wh) (s : ByteArray) (a : Option Addr) (n cap : Nat) (t : TypeId) : Obj := .cells #[.int .i64 h.kd, .int .i64 h.rq, .int .i64 h.od, .string s, .int .i64 h.cl, .int .i64 h.cd, .slice a n cap] t

def rz (r : Ri) : List Int := [r.tr, r.dy, r.fr, r.to]

/-- The numbers of a want as far as k rides. -/
def wzk (h : Wh) (rs : List Ri) (k : Nat) : List Int := [h.kd, h.rq, h.od, h.cl, h.cd, (rs.length : Int)] ++ (rs.take k).flatMap rz

/-- All of them. -/
def wz (h : Wh) (rs : List Ri) : List Int := [h.kd, h.rq, h.od, h.cl, h.cd, (rs.length : Int)] ++ rs.flatMap rz

theorem wzk_all (h : Wh) (rs : List Ri) : wzk h rs rs.length = wz h rs := by unfold wzk wz; rw [List.take_length]

theorem wzk_zero (h : Wh) (rs : List Ri) : wzk h rs 0 = [h.kd, h.rq, h.od, h.cl, h.cd, (rs.length : Int)] := by simp [wzk]

theorem wzk_step (h : Wh) (rs : List Ri) (k : Nat) (hk : k < rs.length) : wzk h rs (k + 1) = wzk h rs k ++ rz rs[k] := by
  unfold wzk
  rw [List.take_succ_eq_append_getElem hk, List.flatMap_append, List.append_assoc]
  simp

theorem wzk_length (h : Wh) (rs : List Ri) : ∀ k, k ≤ rs.length → (wzk h rs k).length = 6 + 4 * k
  | 0, _ => by simp [wzk]
  | k + 1, hk => by
    rw [wzk_step h rs k (by omega), List.length_append, wzk_length h rs k (by omega)]
    show _ + 4 = _
    omega

theorem wz_length (h : Wh) (rs : List Ri) : (wz h rs).length = 6 + 4 * rs.length := by rw [← wzk_all]; exact wzk_length h rs _ (Nat.le_refl _)

/-- The cells of numbers. -/
def zcells (zs : List Int) : List Value := zs.map (Value.int .i64)

theorem zcells_append (a b : List Int) : zcells a ++ zcells b = zcells (a ++ b) := by simp [zcells]
theorem zcells_length (a : List Int) : (zcells a).length = a.length := by simp [zcells]
theorem zcells_at (l : List Int) (i : Nat) (h : i < l.length) : (zcells l)[i]? = some (.int .i64 l[i]) := by simp [zcells, h]

/-- A new row. -/
theorem own_list (W : World) (B : Nat) (vs : List Value) (t : TypeId) (hB : B ≤ W.heap.size) (hn : vs.length ≤ maxLen) : (W.alloc (.cells vs.toArray t)).ownsRow B t 1 (.slice (some ⟨W.heap.size, 0, none⟩) vs.length vs.length) vs.length vs :=
  ⟨by simp, Or.inr ⟨W.heap.size, vs.length, vs.toArray, rfl, hB, heap_new W _, Nat.le_refl _, hn, by simp, by simp⟩⟩

theorem cell_four (W : World) (n : Nat) (hn : n = W.heap.size) (x0 x1 x2 x3 : Value) (t : TypeId) : ∀ j u, [x0, x1, x2, x3][j]? = some u → (W.alloc (.cells #[x0, x1, x2, x3] t)).cell? (Addr.add ⟨n, 0, none⟩ j) = some u := by
  subst hn
  intro j u hu
  rw [show Addr.add ⟨W.heap.size, 0, none⟩ j = ⟨W.heap.size, j, none⟩ from by simp [Addr.add]; exact Eq.symm, cell_at (heap_new W (.cells #[x0, x1, x2, x3] t)) j]
  simpa using hu

set_option maxRecDepth 100000 in
set_option maxHeartbeats 4000000 in
theorem numbersOfWant_val (h : Wh) (s : ByteArray) (a : Option Addr) (rs : List Ri) (cap : Nat) (w : World) (hz : rs.length ≤ 1048576) (I : Rides w a rs) :
    Calls Tryd.prog 20 #[wnV h s a rs.length cap] w fun e w' => (∃ v, e = .returned v ∧ w'.ownsRow w.heap.size 3 1 v (wz h rs).length (zcells (wz h rs))) ∧ Below w.heap.size w w' := by
  obtain ⟨i0, hi, hz0, hz1, hz2⟩ := info_of Pk.info_int
  have m0 := heap_new w (wnB h s a rs.length cap 30)
  have N0 := new_below w (wnB h s a rs.length cap 30)
  have I0 := I.on N0
  have O0 := own_list (w.alloc (wnB h s a rs.length cap 30)) w.heap.size (zcells (wzk h rs 0)) 3 (by simp) (by rw [zcells_length, wzk_length h rs 0 (by omega)]; unfold maxLen; omega)
  have L0 : Below w.heap.size w ((w.alloc (wnB h s a rs.length cap 30)).alloc (.cells #[.int .i64 h.kd, .int .i64 h.rq, .int .i64 h.od, .int .i64 h.cl, .int .i64 h.cd, .int .i64 (rs.length : Int)] 3)) := N0.alloc N0.size _
  rw [zcells_length, wzk_length h rs 0 (by omega)] at O0
  have HWA : Hid (wzk h rs rs.length = wz h rs) := wzk_all h rs
  have HWL : Hid (∀ k, k ≤ rs.length → (wzk h rs k).length = 6 + 4 * k) := wzk_length h rs
  have HWZ : Hid ((wz h rs).length = 6 + 4 * rs.length) := wz_length h rs
  have HWS : Hid (∀ k (hk : k < rs.length), wzk h rs (k + 1) = wzk h rs k ++ rz rs[k]) := wzk_step h rs
  have c6 : (w.alloc (wnB h s a rs.length cap 30)).cell? ⟨w.heap.size, 6, none⟩ = some (.slice a rs.length cap) := cell_at m0 6
  have hs0 : (w.alloc (wnB h s a rs.length cap 30)).heap.size = w.heap.size + 1 := Array.size_push ..
  rw [hs0] at O0
  generalize hZ : wz h rs = Z at *
  go_enter Tryd.func20, Tryd.ntmps20
  go_wp2
  go_loopw [3, 23] (fun v i wr => ∃ k : Nat, k ≤ rs.length ∧ i = .int .i64 k ∧ wr.ownsRow w.heap.size 3 1 v (6 + 4 * k) (zcells (wzk h rs k)) ∧ Hid (Below w.heap.size w wr)) (fun _ i _ => rs.length - (intOf i).toNat)
  case atStart => exact ⟨0, by omega, rfl, O0, L0⟩
  case round =>
    clear O0 L0 N0 I0 m0 c6 hs0
    obtain ⟨k, hk, rfl, O, L⟩ := hrel
    by_cases hlt : k < rs.length
    · obtain ⟨b, o, rfl, hb, c0, c1, c2, c3⟩ := (I.on L.out).at k hlt
      have HS : Hid (_) := HWS.out k hlt
      have hkI : (k : Int) < (rs.length : Int) := by omega
      have hk0 : (0 : Int) ≤ (k : Int) := by omega
      have hBr : w.heap.size ≤ wr.heap.size := L.out.size
      generalize rs[k] = r at *
      have hs1 : (wr.alloc (.cells #[.int .i64 r.tr, .int .i64 r.dy, .int .i64 r.fr, .int .i64 r.to] 41)).heap.size = wr.heap.size + 1 := Array.size_push ..
      have LA : Below w.heap.size w ((wr.alloc (.cells #[.int .i64 r.tr, .int .i64 r.dy, .int .i64 r.fr, .int .i64 r.to] 41)).alloc (.cells #[.int .i64 r.tr, .int .i64 r.dy, .int .i64 r.fr, .int .i64 r.to] 3)) := (L.out.alloc hBr _).alloc (by rw [hs1]; omega) _
      go_wp2_with (at_builtin; refine wpList_append_own _ rfl _ _ 39 rfl w.heap.size 3 i0 (.int .i64 0) 1 8 Tryd.underlying39 hi hz0 hz1 hz2 rfl (by decide) _ _ _ rfl ((O.alloc _).alloc _) _ 4 4 [.int .i64 r.tr, .int .i64 r.dy, .int .i64 r.fr, .int .i64 r.to] rfl rfl ?c1 ?c2 ?c3 ?c4 ?c5 ?_)
      case c1 => exact cell_four _ _ hs1.symm _ _ _ _ _
      case c2 => intro u hu; simp at hu; rcases hu with rfl | rfl | rfl | rfl <;> rfl
      case c3 => unfold maxLen; omega
      case c4 => omega
      case c5 => exact LA.size
      intro v' w5 own5 grow5 _
      have L5 : Below w.heap.size w w5 := LA.grown grow5 (by simp; omega) (fun m h => own_ge O m h)
      rw [show [Value.int .i64 r.tr, .int .i64 r.dy, .int .i64 r.fr, .int .i64 r.to] = zcells (rz r) from rfl, zcells_append, ← HS.out, show 6 + 4 * k + 4 = 6 + 4 * (k + 1) from by omega] at own5
      clear grow5
      go_wp2
      go_roundw
      case rel => exact ⟨k + 1, by omega, by go_num, own5, L5⟩
      case measure => simp [intOf]; omega
    · obtain rfl : k = rs.length := by omega
      have hkI : ¬ (rs.length : Int) < (rs.length : Int) := by omega
      rw [HWA.out, ← HWZ.out] at O
      go_wp2
      go_ret
      exact ⟨⟨_, rfl, O⟩, L.out⟩

/-- Numbers, each with a blank behind it. -/
def dl (zs : List Int) : ByteArray := zs.foldl (fun o z => o ++ (decS z ++ ⟨#[32]⟩)) ⟨#[]⟩

theorem dl_take (zs : List Int) (k : Nat) (h : k < zs.length) : dl (zs.take (k + 1)) = dl (zs.take k) ++ (decS zs[k] ++ ⟨#[32]⟩) := by
  unfold dl
  rw [List.take_add_one, List.getElem?_eq_getElem h, List.foldl_append]
  rfl

theorem ws_dl (zs : List Int) : ∀ k, k ≤ zs.length → ws (zs.take k) ++ ⟨#[32]⟩ = ⟨#[32]⟩ ++ dl (zs.take k)
  | 0, _ => rfl
  | k + 1, h => by
    rw [ws_take zs k (by omega), dl_take zs k (by omega), ← ba_assoc (⟨#[32]⟩ : ByteArray) (dl _), ← ws_dl zs k (by omega), ba_assoc, ba_assoc, ba_assoc]

theorem ws_dl' (zs : List Int) : ws zs ++ ⟨#[32]⟩ = ⟨#[32]⟩ ++ dl zs := by
  have := ws_dl zs zs.length (Nat.le_refl _)
  rwa [List.take_length] at this

/-- All numbers are in their bounds. -/
def okZ (zs : List Int) : Bool := zs.all fun z => inB z 0 999999999

def okF (zs : List Int) (k : Nat) : Bool := (zs.drop k).all fun z => inB z 0 999999999

theorem okF_step (zs : List Int) (k : Nat) (h : k < zs.length) : okF zs k = (inB zs[k] 0 999999999 && okF zs (k + 1)) := by
  unfold okF
  rw [List.drop_eq_getElem_cons h]
  rfl

theorem okF_end (zs : List Int) (k : Nat) (h : ¬ k < zs.length) : okF zs k = true := by
  unfold okF
  rw [List.drop_of_length_le (by omega)]
  rfl

theorem okZ_nums {zs : List Int} (h : okZ zs = true) : Nums zs := by
  intro z hz
  unfold okZ at h
  rw [List.all_eq_true] at h
  exact Tk.inB_yes (h z hz)

/-- What WantLine answers. -/
def wlB (h : Wh) (s : ByteArray) (rs : List Ri) : Bool := okZ (wz h rs) && decide (rs.length ≤ 6) && nameB s
def wlS (h : Wh) (s : ByteArray) (rs : List Ri) : ByteArray := if wlB h s rs = true then dl (wz h rs) ++ s else ⟨#[]⟩

end Wn
end Go.Proofs.YtdfejmaekdgcdasDoor
