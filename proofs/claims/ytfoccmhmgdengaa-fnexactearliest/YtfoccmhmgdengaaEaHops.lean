/- All hops of a train on a day, put behind those of their stations. -/
import Derived.Test.YtfoccmhmgdengaaEaPut
import Derived.Test.YtfoccmhmgdengaaTnHop2
import Derived.Deep.Cut
import Derived.Deep.CutRange
import Derived.Deep.RegionHeld3
namespace Go.Proofs.Ytfoccmhmgdengaa
namespace Rd
open Go.ChangeShapes Go.WideShapes Go.ChangeAt Go.RowKit
open Pk (new_below join_below cell_at heap_new frozen_at lt_of kept heap_old info_of own_form own_below own_ne Room)
open Tn (Tr Hd St Stops trV trB hopV)
open Go.ChangeMaps (setBlock)
set_option linter.unusedSimpArgs false
set_option linter.unusedVariables false

/-- A hop of a train from a stop to a later one. -/
def mkH (t : Hd) (l : List St) (day : Int) (i j : Nat) : Hp := ⟨⟨t.id, day, (l.getD i ⟨0, 0, 0⟩).st, (l.getD j ⟨0, 0, 0⟩).st⟩, 1440 * day + (l.getD i ⟨0, 0, 0⟩).dp, 1440 * day + (l.getD j ⟨0, 0, 0⟩).ar⟩

/-- Those from one stop, as many as m; those from the first n stops. -/
def rowH (t : Hd) (l : List St) (day : Int) (i m : Nat) : List Hp := (List.range m).map fun j => mkH t l day i (i + 1 + j)
def allT (t : Hd) (l : List St) (day : Int) (n : Nat) : List Hp := (List.range n).flatMap fun i => rowH t l day i (l.length - (i + 1))

/-- Hops put behind those of their stations. -/
def putH (f : Int → List Hp) (h : Hp) : Int → List Hp := Em.more f h.r.fr h
def putA (f : Int → List Hp) (hs : List Hp) : Int → List Hp := hs.foldl putH f

theorem putA_snoc (f : Int → List Hp) (hs : List Hp) (h : Hp) : putA f (hs ++ [h]) = Em.more (putA f hs) h.r.fr h := by
  unfold putA
  rw [List.foldl_append]
  rfl

theorem putA_at (hs : List Hp) : ∀ (f : Int → List Hp) (s : Int), putA f hs s = f s ++ hs.filter fun h => decide (h.r.fr = s) := by
  induction hs with
  | nil => intro f s; simp [putA]
  | cons h hs ih =>
    intro f s
    show putA (putH f h) hs s = _
    rw [ih]
    unfold putH
    by_cases e : h.r.fr = s
    · subst e
      rw [Em.more_same, List.filter_cons_of_pos (by simp)]
      simp
    · rw [Em.more_other _ _ _ _ (fun q => e q.symm), List.filter_cons_of_neg (by simpa using e)]

theorem putA_len (f : Int → List Hp) (hs : List Hp) (s : Int) : (putA f hs s).length ≤ (f s).length + hs.length := by
  rw [putA_at, List.length_append]
  have := List.length_filter_le (fun h : Hp => decide (h.r.fr = s)) hs
  omega

theorem rowH_succ (t : Hd) (l : List St) (day : Int) (i m : Nat) : rowH t l day i (m + 1) = rowH t l day i m ++ [mkH t l day i (i + 1 + m)] := by
  unfold rowH
  rw [List.range_succ, List.map_append]
  rfl

theorem allT_succ (t : Hd) (l : List St) (day : Int) (n : Nat) : allT t l day (n + 1) = allT t l day n ++ rowH t l day n (l.length - (n + 1)) := by
  unfold allT
  rw [List.range_succ, List.flatMap_append]
  simp

theorem rowH_len (t : Hd) (l : List St) (day : Int) (i m : Nat) : (rowH t l day i m).length = m := by simp [rowH]

theorem allT_len (t : Hd) (l : List St) (day : Int) (n : Nat) : (allT t l day n).length ≤ n * l.length := by
  induction n with
  | zero => simp [allT]
  | succ n ih =>
    rw [allT_succ, List.length_append, rowH_len, Nat.succ_mul]
    omega

theorem setBlock_other (w : World) (b c : Nat) (o : Obj) (h : c ≠ b) : (setBlock w b o).heap[c]? = w.heap[c]? := by
  show (w.heap.setIfInBounds b o)[c]? = _
  rw [Array.getElem?_setIfInBounds_ne (fun e => h e.symm)]

theorem setBlock_size (w : World) (b : Nat) (o : Obj) : (setBlock w b o).heap.size = w.heap.size := by simp [setBlock]

/-- Blocks of cells that are no hops are kept. -/
def Kt (w w1 : World) : Prop := ∀ (c : Nat) (cs : Array Value) (ty : TypeId) (fz : Nat × Nat), w.heap[c]? = some (.cells cs ty fz) → ty ≠ 76 → w1.heap[c]? = some (.cells cs ty fz)

theorem Kt.below {w w1 : World} (L : Below w.heap.size w w1) : Kt w w1 := fun c cs ty fz h _ => kept L (lt_of h) h

theorem Kt.trans {w w1 w2 : World} (h : Kt w w1) (g : Kt w1 w2) : Kt w w2 := fun c cs ty fz h1 h2 => g c cs ty fz (h c cs ty fz h1 h2) h2

theorem Kt.grown {w w1 : World} {B n : Nat} {v : Value} {xs : List Value} (O : w.ownsRow B 76 6 v n xs) (G : w.grownBy w1 v.ownBlock) : Kt w w1 := fun c cs ty fz h1 h2 => (G.block c (lt_of h1) (own_ne O h1 h2)).trans h1

theorem Kt.set {w : World} {b : Nat} {es : Array MapEntry} {clock : Nat} {o : Obj} (hb : w.heap[b]? = some (.map es clock)) : Kt w (setBlock w b o) := fun c cs ty fz h1 _ => by
  have hne : c ≠ b := by
    rintro rfl
    rw [hb] at h1
    cases h1
  rw [setBlock_other w b c o hne]
  exact h1

theorem mkH_at (t : Hd) (l : List St) (day : Int) {i j : Nat} (hi : i < l.length) (hj : j < l.length) : mkH t l day i j = ⟨⟨t.id, day, l[i].st, l[j].st⟩, 1440 * day + l[i].dp, 1440 * day + l[j].ar⟩ := by
  unfold mkH
  simp [List.getD, hi, hj]

theorem info_hop : (Try.prog.info? 76).map (fun i => (i.zero, i.size, i.bytes)) = some (some (hopV ⟨0, 0, 0, 0⟩ 0 0), 6, 48) := by kernel_rfl

set_option maxRecDepth 100000 in
set_option maxHeartbeats 8000000 in
theorem addHops_val (B b : Nat) (f : Int → List Hp) (es : Array MapEntry) (clock : Nat) (t : Hd) (day : Int) (a : Option Addr) (l : List St) (cap : Nat) (w : World) (hl : l.length ≤ 1000) (hd0 : 0 ≤ day) (hd1 : day ≤ 99999) (hf : ∀ s, (f s).length ≤ 100000)
    (hst : ∀ i (h : i < l.length), 0 ≤ l[i].ar ∧ l[i].ar ≤ 4000 ∧ 0 ≤ l[i].dp ∧ l[i].dp ≤ 4000 ∧ Em.WfI l[i].st) (hbB : b < B) (hBw : B ≤ w.heap.size) (M : Em.Mp B b f es clock w) (HST : ∀ w', Below b w w' → Stops w' a l) :
    Calls Try.prog 51 #[trV t a l.length cap, .map (some b), .int .i64 day] w fun e w' => e = .returned (.tuple #[]) ∧ (∃ es' clock', Em.Mp B b (putA f (allT t l day l.length)) es' clock' w') ∧ Below b w w' ∧ Kt w w' := by
  obtain ⟨i0, hi, hz0, hz1, hz2⟩ := info_of info_hop
  have hal : ∀ n, n ≤ l.length → n * l.length ≤ 1000000 := fun n h => Nat.le_trans (Nat.mul_le_mul h (Nat.le_refl _)) (Nat.le_trans (Nat.mul_le_mul hl hl) (by omega))
  have HSH : Hid (∀ w', Below b w w' → Stops w' a l) := HST
  have N0 := new_below w (trB t a l.length cap 33)
  have m0 := heap_new w (trB t a l.length cap 33)
  have M0 := M.on N0
  have hbw : b < w.heap.size := by omega
  have L0 : Below b w (w.alloc (trB t a l.length cap 33)) := N0.mono (by omega)
  have s0 : (w.alloc (trB t a l.length cap 33)).heap.size = w.heap.size + 1 := Array.size_push ..
  have KT0 : Kt w (w.alloc (trB t a l.length cap 33)) := Kt.below N0
  clear HST M N0
  go_enter Try.func51, Try.ntmps51
  have c4 : (w.alloc (trB t a l.length cap 33)).cell? ⟨w.heap.size, 4, none⟩ = some (.slice a l.length cap) := cell_at m0 4
  go_wp2
  generalize w.alloc (trB t a l.length cap 33) = W0 at *
  clear c4
  generalize hPT : w.heap.size = PT at *
  go_loopw [12] (fun iv wr => ∃ (i : Nat) (es' : Array MapEntry) (clock' : Nat), i ≤ l.length ∧ iv = .int .i64 i ∧ Em.Mp B b (putA f (allT t l day i)) es' clock' wr ∧ Below b w wr ∧ Kt w wr ∧ wr.heap[PT]? = some (trB t a l.length cap 33)) (fun iv _ => l.length - (intOf iv).toNat)
  case atStart => exact ⟨0, es, clock, by omega, rfl, M0, L0, KT0, m0⟩
  case round =>
    clear M0 L0 m0 s0 KT0
    obtain ⟨i, es1, clock1, hi9, rfl, M1, L1, KT1, m1⟩ := hrel
    by_cases hin : i < l.length
    · obtain ⟨bi, oi, ea, hbi, s0, s1, s2⟩ := (HSH.out wr L1).at i hin
      subst ea
      have hi1 : (i : Int) < (l.length : Int) := by omega
      have hsi := hst i hin
      obtain ⟨ti, hti⟩ : ∃ z, l[i] = z := ⟨_, rfl⟩
      rw [hti] at s0 s1 s2 hsi
      have NX := new_below wr (.cells #[.int .i64 ti.st, .int .i64 ti.ar, .int .i64 ti.dp] 42)
      have x2 := heap_new wr (.cells #[.int .i64 ti.st, .int .i64 ti.ar, .int .i64 ti.dp] 42)
      have m2 := heap_old m1 (.cells #[.int .i64 ti.st, .int .i64 ti.ar, .int .i64 ti.dp] 42)
      have M2 := M1.on NX
      have hws := L1.size
      have L2 : Below b w (wr.alloc (.cells #[.int .i64 ti.st, .int .i64 ti.ar, .int .i64 ti.dp] 42)) := L1.trans (NX.mono (by omega))
      have hPS : PT < wr.heap.size := lt_of m1
      have KT2 : Kt w (wr.alloc (.cells #[.int .i64 ti.st, .int .i64 ti.ar, .int .i64 ti.dp] 42)) := KT1.trans (Kt.below NX)
      clear M1 L1 m1 NX KT1
      go_wp2
      generalize wr.alloc (.cells #[.int .i64 ti.st, .int .i64 ti.ar, .int .i64 ti.dp] 42) = W2 at *
      generalize wr.heap.size = SB at *
      clear s0 s1 s2
      go_loopw [8] (fun jv WQ => ∃ (m : Nat) (es2 : Array MapEntry) (clock2 : Nat), i + 1 + m ≤ l.length ∧ jv = .int .i64 ((i + 1 + m : Nat) : Int) ∧ Em.Mp B b (putA f (allT t l day i ++ rowH t l day i m)) es2 clock2 WQ ∧ Below b w WQ ∧ Kt w WQ ∧ WQ.heap[PT]? = some (trB t (some ⟨bi, oi, none⟩) l.length cap 33) ∧ WQ.heap[SB]? = some (.cells #[.int .i64 ti.st, .int .i64 ti.ar, .int .i64 ti.dp] 42)) (fun jv _ => l.length - (intOf jv).toNat)
      case atStart => exact ⟨0, es1, clock1, by omega, by go_num, by simpa [rowH] using M2, L2, KT2, m2, x2⟩
      case round =>
        clear M2 L2 m2 x2 KT2
        obtain ⟨m, es2, clock2, hm9, rfl, Mq, Lq, KTq, mq, uq⟩ := hrel
        have c4 : wr.cell? ⟨PT, 4, none⟩ = some (.slice (some ⟨bi, oi, none⟩) l.length cap) := cell_at mq 4
        obtain ⟨j, hj⟩ : ∃ j, i + 1 + m = j := ⟨_, rfl⟩
        rw [hj] at hm9 ⊢
        by_cases hjn : j < l.length
        · have hjd : decide ((j : Int) < (l.length : Int)) = true := decide_eq_true (by omega)
          have hsj := hst j hjn
          obtain ⟨p, hp⟩ : ∃ p, mkH t l day i j = p := ⟨_, rfl⟩
          have hpm := (mkH_at t l day hin hjn).symm.trans hp
          have hpf : p.r.fr = ti.st := by rw [← hpm]; show l[i].st = _; rw [hti]
          obtain ⟨v0, hl0, O0, hst0⟩ := Mq.add p (by rw [hpf]; exact hsi.2.2.2.2) hbB (by have := Lq.size; omega)
          have HLN : Hid ((putA f (allT t l day i ++ rowH t l day i m) p.r.fr).length ≤ 1500000) := by
            have h1 := putA_len f (allT t l day i ++ rowH t l day i m) p.r.fr
            have h2 := hf p.r.fr
            have h3 := allT_len t l day i
            have h4 := hal i (by omega)
            rw [List.length_append, rowH_len] at h1
            show _ ≤ _
            omega
          have HPF : Hid (p.r.fr = ti.st) := hpf
          clear hpf
          have HLK : Hid (_) := hl0
          have HST2 : Hid (_) := hst0
          have HHO : Hid (∀ W : World, Stops W (some ⟨bi, oi, none⟩) l → Calls Try.prog 63 #[trV t (some ⟨bi, oi, none⟩) l.length cap, .int .i64 day, .int .i64 i, .int .i64 j] W fun e w' => e = .returned (.agg #[.int .i64 p.r.tr, .int .i64 p.r.dy, .int .i64 p.r.fr, .int .i64 p.r.to, .int .i64 p.d, .int .i64 p.z]) ∧ Below W.heap.size W w') := fun W h => by
            have h1 := Tn.hopOn_val t day (some ⟨bi, oi, none⟩) l cap i j W (by omega) hd0 hd1 hin hjn (by rw [hti]; exact ⟨hsi.2.2.1, hsi.2.2.2.1⟩) ⟨hsj.1, hsj.2.1⟩ h
            rw [← hpm]
            exact h1
          have HSQ : Hid (∀ v, Below wr.heap.size wr v → Stops v (some ⟨bi, oi, none⟩) l) := fun v k => HSH.out v (Lq.trans (k.mono (by have := Lq.size; omega)))
          have HKS : Hid (∀ v, Below wr.heap.size wr v → v.heap[PT]? = some (trB t (some ⟨bi, oi, none⟩) l.length cap 33) ∧ v.heap[SB]? = some (.cells #[.int .i64 ti.st, .int .i64 ti.ar, .int .i64 ti.dp] 42)) := fun v k => ⟨kept k (lt_of mq) mq, kept k (lt_of uq) uq⟩
          have HSB : Hid (∀ v : World, v.heap[SB]? = some (.cells #[.int .i64 ti.st, .int .i64 ti.ar, .int .i64 ti.dp] 42) → v.cell? ⟨SB, 0, none⟩ = some (.int .i64 ti.st)) := fun v h => cell_at h 0
          have HTB : Hid (∀ v : World, v.heap[PT]? = some (trB t (some ⟨bi, oi, none⟩) l.length cap 33) → v.cell? ⟨PT, 0, none⟩ = some (.int .i64 t.id) ∧ v.cell? ⟨PT, 1, none⟩ = some (.int .i64 t.dy) ∧ v.cell? ⟨PT, 2, none⟩ = some (.int .i64 t.co) ∧ v.cell? ⟨PT, 3, none⟩ = some (.int .i64 t.se) ∧ v.cell? ⟨PT, 4, none⟩ = some (.slice (some ⟨bi, oi, none⟩) l.length cap)) := fun v h => ⟨cell_at h 0, cell_at h 1, cell_at h 2, cell_at h 3, cell_at h 4⟩
          have K0 : Below wr.heap.size wr wr.drew := (Below.refl _ _).drew
          have hPb : PT ≠ b := by omega
          have hSb : SB ≠ b := by omega
          have hws2 := Lq.size
          have HBK : Hid (wr.heap[b]? = some (.map es2 clock2)) := Mq.blk
          clear hl0 hst0 hpm hsj
          go_upto_region 7 with fail
          clear c4
          refine wp_region_held_drew (S := (fun w' => w'.heap[PT]? = some (trB t (some ⟨bi, oi, none⟩) l.length cap 33) ∧ w'.heap[SB]? = some (.cells #[.int .i64 ti.st, .int .i64 ti.ar, .int .i64 ti.dp] 42))) (by kernel_rfl) ?_ (fun hHeld => ?_)
          · exact HKS.out _ K0
          refine wpAnyH_take (i := 0) (v := .map (some b)) rfl (by kernel_rfl) (by kernel_rfl) (by kernel_rfl) (fun _ _ _ h => h) (Or.inl ⟨by kernel_rfl, fun w hSw => by first | (go_simp; done) | (dsimp only at hSw; obtain ⟨hS0, hS1⟩ := hSw; go_simp; done) | rfl⟩) (by assumption) ?_
          simp only [Act.put, List.getElem_toArray, List.getElem_cons_succ, List.getElem_cons_zero, List.setIfInBounds_toArray, List.set_cons_succ, List.set_cons_zero]
          refine wpAnyH_take (i := 1) (v := .pointer (some ⟨SB, 0, none⟩)) rfl (by kernel_rfl) (by kernel_rfl) (by kernel_rfl) (fun _ _ _ h => h) (Or.inl ⟨by kernel_rfl, fun w hSw => by first | (go_simp; done) | (dsimp only at hSw; obtain ⟨hS0, hS1⟩ := hSw; go_simp; done) | rfl⟩) (by assumption) ?_
          simp only [Act.put, List.getElem_toArray, List.getElem_cons_succ, List.getElem_cons_zero, List.setIfInBounds_toArray, List.set_cons_succ, List.set_cons_zero]
          refine wpAnyH_take (i := 2) (v := .int .i64 p.r.fr) rfl (by kernel_rfl) (by kernel_rfl) (by kernel_rfl) (fun _ _ _ h => h) (Or.inl ⟨by kernel_rfl, fun w hSw => by first | (have z0 := HSB.out _ hSw.2; rw [HPF.out]; go_simp; done) | (go_simp; done) | (dsimp only at hSw; obtain ⟨hS0, hS1⟩ := hSw; go_simp; done) | rfl⟩) (by assumption) ?_
          simp only [Act.put, List.getElem_toArray, List.getElem_cons_succ, List.getElem_cons_zero, List.setIfInBounds_toArray, List.set_cons_succ, List.set_cons_zero]
          refine wpAnyH_take (i := 3) (v := .map (some b)) rfl (by kernel_rfl) (by kernel_rfl) (by kernel_rfl) (fun _ _ _ h => h) (Or.inl ⟨by kernel_rfl, fun w hSw => by first | (go_simp; done) | (dsimp only at hSw; obtain ⟨hS0, hS1⟩ := hSw; go_simp; done) | rfl⟩) (by assumption) ?_
          simp only [Act.put, List.getElem_toArray, List.getElem_cons_succ, List.getElem_cons_zero, List.setIfInBounds_toArray, List.set_cons_succ, List.set_cons_zero]
          refine wpAnyH_take (i := 4) (v := .pointer (some ⟨SB, 0, none⟩)) rfl (by kernel_rfl) (by kernel_rfl) (by kernel_rfl) (fun _ _ _ h => h) (Or.inl ⟨by kernel_rfl, fun w hSw => by first | (go_simp; done) | (dsimp only at hSw; obtain ⟨hS0, hS1⟩ := hSw; go_simp; done) | rfl⟩) (by assumption) ?_
          simp only [Act.put, List.getElem_toArray, List.getElem_cons_succ, List.getElem_cons_zero, List.setIfInBounds_toArray, List.set_cons_succ, List.set_cons_zero]
          refine wpAnyH_take (i := 5) (v := .int .i64 p.r.fr) rfl (by kernel_rfl) (by kernel_rfl) (by kernel_rfl) (fun _ _ _ h => h) (Or.inl ⟨by kernel_rfl, fun w hSw => by first | (have z0 := HSB.out _ hSw.2; rw [HPF.out]; go_simp; done) | (go_simp; done) | (dsimp only at hSw; obtain ⟨hS0, hS1⟩ := hSw; go_simp; done) | rfl⟩) (by assumption) ?_
          simp only [Act.put, List.getElem_toArray, List.getElem_cons_succ, List.getElem_cons_zero, List.setIfInBounds_toArray, List.set_cons_succ, List.set_cons_zero]
          refine wpAnyH_take (i := 7) (v := .agg #[.int .i64 t.id, .int .i64 t.dy, .int .i64 t.co, .int .i64 t.se, .slice (some ⟨bi, oi, none⟩) l.length cap]) rfl (by kernel_rfl) (by kernel_rfl) (by kernel_rfl) (fun _ _ _ h => h) (Or.inl ⟨by kernel_rfl, fun w hSw => by first | (obtain ⟨z0, z1, z2, z3, z4⟩ := HTB.out _ hSw.1; go_simp; done) | (go_simp; done) | (dsimp only at hSw; obtain ⟨hS0, hS1⟩ := hSw; go_simp; done) | rfl⟩) (by assumption) ?_
          simp only [Act.put, List.getElem_toArray, List.getElem_cons_succ, List.getElem_cons_zero, List.setIfInBounds_toArray, List.set_cons_succ, List.set_cons_zero]
          refine wpAnyH_take (i := 8) (v := .int .i64 day) rfl (by kernel_rfl) (by kernel_rfl) (by kernel_rfl) (fun _ _ _ h => h) (Or.inl ⟨by kernel_rfl, fun w hSw => by first | (go_simp; done) | (dsimp only at hSw; obtain ⟨hS0, hS1⟩ := hSw; go_simp; done) | rfl⟩) (by assumption) ?_
          simp only [Act.put, List.getElem_toArray, List.getElem_cons_succ, List.getElem_cons_zero, List.setIfInBounds_toArray, List.set_cons_succ, List.set_cons_zero]
          refine wpAnyH_take (i := 9) (v := .int .i64 i) rfl (by kernel_rfl) (by kernel_rfl) (by kernel_rfl) (fun _ _ _ h => h) (Or.inl ⟨by kernel_rfl, fun w hSw => by first | (go_simp; done) | (dsimp only at hSw; obtain ⟨hS0, hS1⟩ := hSw; go_simp; done) | rfl⟩) (by assumption) ?_
          simp only [Act.put, List.getElem_toArray, List.getElem_cons_succ, List.getElem_cons_zero, List.setIfInBounds_toArray, List.set_cons_succ, List.set_cons_zero]
          refine wpAnyH_take (i := 10) (v := .int .i64 j) rfl (by kernel_rfl) (by kernel_rfl) (by kernel_rfl) (fun _ _ _ h => h) (Or.inl ⟨by kernel_rfl, fun w hSw => by first | (go_simp; done) | (dsimp only at hSw; obtain ⟨hS0, hS1⟩ := hSw; go_simp; done) | rfl⟩) (by assumption) ?_
          simp only [Act.put, List.getElem_toArray, List.getElem_cons_succ, List.getElem_cons_zero, List.setIfInBounds_toArray, List.set_cons_succ, List.set_cons_zero]
          refine wpAnyH_ready (rs := [6, 11]) (by kernel_rfl) (by simp) ?_
          refine AllReadyH.cons rfl (fun K hK => ?_) (AllReadyH.cons rfl (fun K hK => ?_) (AllReadyH.nil))
          · rw [if_pos (by kernel_rfl)]
            refine Em.wp_look _ _ rfl _ _ v0 rfl rfl (by first | exact HLK.out _ K0 | exact HLK.out _ K1 | exact HLK.out _ K2) ?_
            try simp only [Act.put, List.getElem_toArray, List.getElem_cons_succ, List.getElem_cons_zero, List.setIfInBounds_toArray, List.set_cons_succ, List.set_cons_zero]
            refine hK.out _ _ ?_ (fun hHeld2 => ?_)
            · first | exact hHeld | exact HKS.out _ K0 | exact HKS.out _ K1 | exact HKS.out _ K2 | exact ⟨t9, u9⟩ | exact ⟨(setBlock_other w9 b PT _ hPb).trans t9, (setBlock_other w9 b SB _ hSb).trans u9⟩
            clear hK K hHeld
            have hHeld := hHeld2
            clear hHeld2
            refine wpAnyH_ready (rs := [11]) (by kernel_rfl) (by simp) ?_
            refine AllReadyH.cons rfl (fun K hK => ?_) (AllReadyH.nil)
            go_simp
            go_wp2_with (go_at_call 63; (with_reducible refine (HHO.out _ ?_).mono ?_); (exact HSQ.out _ K0); rintro e w1 ⟨rfl, L9⟩; have K1 : Below wr.heap.size wr w1 := K0.trans (L9.mono K0.size); have K2 : Below wr.heap.size wr (w1.alloc (.cells #[.int .i64 p.r.tr, .int .i64 p.r.dy, .int .i64 p.r.fr, .int .i64 p.r.to, .int .i64 p.d, .int .i64 p.z] 76)) := K1.trans ((new_below w1 (.cells #[.int .i64 p.r.tr, .int .i64 p.r.dy, .int .i64 p.r.fr, .int .i64 p.r.to, .int .i64 p.d, .int .i64 p.z] 76)).mono K1.size); have lA := heap_new w1 (.cells #[.int .i64 p.r.tr, .int .i64 p.r.dy, .int .i64 p.r.fr, .int .i64 p.r.to, .int .i64 p.d, .int .i64 p.z] 76))
            refine hK.out _ _ ?_ (fun hHeld2 => ?_)
            · first | exact hHeld | exact HKS.out _ K0 | exact HKS.out _ K1 | exact HKS.out _ K2 | exact ⟨t9, u9⟩ | exact ⟨(setBlock_other w9 b PT _ hPb).trans t9, (setBlock_other w9 b SB _ hSb).trans u9⟩
            clear hK K hHeld
            have hHeld := hHeld2
            clear hHeld2
            refine wpAnyH_ready (rs := [12]) (by kernel_rfl) (by simp) ?_
            refine AllReadyH.cons rfl (fun K hK => ?_) (AllReadyH.nil)
            go_simp
            refine hK.out _ _ ?_ (fun hHeld2 => ?_)
            · first | exact hHeld | exact HKS.out _ K0 | exact HKS.out _ K1 | exact HKS.out _ K2 | exact ⟨t9, u9⟩ | exact ⟨(setBlock_other w9 b PT _ hPb).trans t9, (setBlock_other w9 b SB _ hSb).trans u9⟩
            clear hK K hHeld
            have hHeld := hHeld2
            clear hHeld2
            refine wpAnyH_ready (rs := [13]) (by kernel_rfl) (by simp) ?_
            refine AllReadyH.cons rfl (fun K hK => ?_) AllReadyH.nil
            rw [if_pos (by kernel_rfl)]
            have OA := own_below O0 K2 (Nat.le_refl _); have tA := HKS.out _ K2; refine wp_append_at _ _ 101 rfl B 76 i0 (hopV ⟨0, 0, 0, 0⟩ 0 0) 6 48 Try.underlying101 hi hz0 hz1 hz2 rfl (by decide) v0 _ _ rfl OA ⟨w1.heap.size, 0, none⟩ 1 1 (Em.hc1 p) rfl rfl (Em.six_at lA) (by intro u hu; simp only [Em.hc1, List.mem_cons, List.not_mem_nil, or_false] at hu; rcases hu with rfl | rfl | rfl | rfl | rfl | rfl <;> rfl) (by have := HLN.out; unfold maxLen; omega) (by have := HLN.out; omega) (by have := K2.size; omega) ?_
            intro v9 w9 O9 G9 hat
            have t9 : w9.heap[PT]? = _ := (G9.block PT (lt_of tA.1) (own_ne OA tA.1 (by decide))).trans tA.1
            have u9 : w9.heap[SB]? = _ := (G9.block SB (lt_of tA.2) (own_ne OA tA.2 (by decide))).trans tA.2
            obtain ⟨-, es3, clock3, hup, M3, L3, -⟩ := HST2.out (w1.alloc (.cells #[.int .i64 p.r.tr, .int .i64 p.r.dy, .int .i64 p.r.fr, .int .i64 p.r.to, .int .i64 p.d, .int .i64 p.z] 76)) w9 v9 K2 O9 G9 hat
            have bA := kept K2 (lt_of HBK.out) HBK.out
            have hb9 : w9.heap[b]? = _ := (G9.block b (lt_of bA) (fun h => by have := (OA.lt _ h.symm).1; omega)).trans bA
            have KT9 : Kt w w9 := (KTq.trans (Kt.below K2)).trans (Kt.grown OA G9)
            try simp only [Act.put, List.getElem_toArray, List.getElem_cons_succ, List.getElem_cons_zero, List.setIfInBounds_toArray, List.set_cons_succ, List.set_cons_zero]
            refine hK.out _ _ ?_ (fun hHeld2 => ?_)
            · first | exact hHeld | exact HKS.out _ K0 | exact HKS.out _ K1 | exact HKS.out _ K2 | exact ⟨t9, u9⟩ | exact ⟨(setBlock_other w9 b PT _ hPb).trans t9, (setBlock_other w9 b SB _ hSb).trans u9⟩
            clear hK K hHeld
            have hHeld := hHeld2
            clear hHeld2
            refine wpAnyH_ready (rs := [14]) (by kernel_rfl) (by simp) ?_
            refine AllReadyH.cons rfl (fun K hK => ?_) AllReadyH.nil
            rw [if_pos (by kernel_rfl)]
            refine Em.wp_upd _ _ _ rfl _ _ _ rfl rfl rfl hup ?_
            try simp only [Act.put, List.getElem_toArray, List.getElem_cons_succ, List.getElem_cons_zero, List.setIfInBounds_toArray, List.set_cons_succ, List.set_cons_zero]
            refine hK.out _ _ ?_ (fun hHeld2 => ?_)
            · first | exact hHeld | exact HKS.out _ K0 | exact HKS.out _ K1 | exact HKS.out _ K2 | exact ⟨t9, u9⟩ | exact ⟨(setBlock_other w9 b PT _ hPb).trans t9, (setBlock_other w9 b SB _ hSb).trans u9⟩
            clear hK K hHeld
            have hHeld := hHeld2
            clear hHeld2
            refine wpAnyH_done (by kernel_rfl) ?_ _
            have KT10 : Kt w (setBlock w9 b (.map es3 clock3)) := KT9.trans (Kt.set hb9)
            clear bA hb9 KT9 OA G9 KTq
            have t10 := (setBlock_other w9 b PT (.map es3 clock3) hPb).trans t9
            have u10 := (setBlock_other w9 b SB (.map es3 clock3) hSb).trans u9
            have L10 : Below b w (setBlock w9 b (.map es3 clock3)) := Lq.trans L3
            clear hHeld HKS HSQ HHO HLK HST2 HLN HSB HTB O0 K0 K1 K2 lA t9 u9 hup L3 Mq Lq mq uq
            go_wp2
            go_roundw
            case rel => exact ⟨m + 1, es3, clock3, by omega, by rw [← hj]; go_num, by rw [rowH_succ, ← List.append_assoc, putA_snoc, hj, hp]; exact M3, L10, KT10, t10, u10⟩
            case measure => simp [intOf]; omega
          · go_simp
            go_wp2_with (go_at_call 63; (with_reducible refine (HHO.out _ ?_).mono ?_); (exact HSQ.out _ K0); rintro e w1 ⟨rfl, L9⟩; have K1 : Below wr.heap.size wr w1 := K0.trans (L9.mono K0.size); have K2 : Below wr.heap.size wr (w1.alloc (.cells #[.int .i64 p.r.tr, .int .i64 p.r.dy, .int .i64 p.r.fr, .int .i64 p.r.to, .int .i64 p.d, .int .i64 p.z] 76)) := K1.trans ((new_below w1 (.cells #[.int .i64 p.r.tr, .int .i64 p.r.dy, .int .i64 p.r.fr, .int .i64 p.r.to, .int .i64 p.d, .int .i64 p.z] 76)).mono K1.size); have lA := heap_new w1 (.cells #[.int .i64 p.r.tr, .int .i64 p.r.dy, .int .i64 p.r.fr, .int .i64 p.r.to, .int .i64 p.d, .int .i64 p.z] 76))
            refine hK.out _ _ ?_ (fun hHeld2 => ?_)
            · first | exact hHeld | exact HKS.out _ K0 | exact HKS.out _ K1 | exact HKS.out _ K2 | exact ⟨t9, u9⟩ | exact ⟨(setBlock_other w9 b PT _ hPb).trans t9, (setBlock_other w9 b SB _ hSb).trans u9⟩
            clear hK K hHeld
            have hHeld := hHeld2
            clear hHeld2
            refine wpAnyH_ready (rs := [6, 12]) (by kernel_rfl) (by simp) ?_
            refine AllReadyH.cons rfl (fun K hK => ?_) (AllReadyH.cons rfl (fun K hK => ?_) (AllReadyH.nil))
            · rw [if_pos (by kernel_rfl)]
              refine Em.wp_look _ _ rfl _ _ v0 rfl rfl (by first | exact HLK.out _ K0 | exact HLK.out _ K1 | exact HLK.out _ K2) ?_
              try simp only [Act.put, List.getElem_toArray, List.getElem_cons_succ, List.getElem_cons_zero, List.setIfInBounds_toArray, List.set_cons_succ, List.set_cons_zero]
              refine hK.out _ _ ?_ (fun hHeld2 => ?_)
              · first | exact hHeld | exact HKS.out _ K0 | exact HKS.out _ K1 | exact HKS.out _ K2 | exact ⟨t9, u9⟩ | exact ⟨(setBlock_other w9 b PT _ hPb).trans t9, (setBlock_other w9 b SB _ hSb).trans u9⟩
              clear hK K hHeld
              have hHeld := hHeld2
              clear hHeld2
              refine wpAnyH_ready (rs := [12]) (by kernel_rfl) (by simp) ?_
              refine AllReadyH.cons rfl (fun K hK => ?_) (AllReadyH.nil)
              go_simp
              refine hK.out _ _ ?_ (fun hHeld2 => ?_)
              · first | exact hHeld | exact HKS.out _ K0 | exact HKS.out _ K1 | exact HKS.out _ K2 | exact ⟨t9, u9⟩ | exact ⟨(setBlock_other w9 b PT _ hPb).trans t9, (setBlock_other w9 b SB _ hSb).trans u9⟩
              clear hK K hHeld
              have hHeld := hHeld2
              clear hHeld2
              refine wpAnyH_ready (rs := [13]) (by kernel_rfl) (by simp) ?_
              refine AllReadyH.cons rfl (fun K hK => ?_) AllReadyH.nil
              rw [if_pos (by kernel_rfl)]
              have OA := own_below O0 K2 (Nat.le_refl _); have tA := HKS.out _ K2; refine wp_append_at _ _ 101 rfl B 76 i0 (hopV ⟨0, 0, 0, 0⟩ 0 0) 6 48 Try.underlying101 hi hz0 hz1 hz2 rfl (by decide) v0 _ _ rfl OA ⟨w1.heap.size, 0, none⟩ 1 1 (Em.hc1 p) rfl rfl (Em.six_at lA) (by intro u hu; simp only [Em.hc1, List.mem_cons, List.not_mem_nil, or_false] at hu; rcases hu with rfl | rfl | rfl | rfl | rfl | rfl <;> rfl) (by have := HLN.out; unfold maxLen; omega) (by have := HLN.out; omega) (by have := K2.size; omega) ?_
              intro v9 w9 O9 G9 hat
              have t9 : w9.heap[PT]? = _ := (G9.block PT (lt_of tA.1) (own_ne OA tA.1 (by decide))).trans tA.1
              have u9 : w9.heap[SB]? = _ := (G9.block SB (lt_of tA.2) (own_ne OA tA.2 (by decide))).trans tA.2
              obtain ⟨-, es3, clock3, hup, M3, L3, -⟩ := HST2.out (w1.alloc (.cells #[.int .i64 p.r.tr, .int .i64 p.r.dy, .int .i64 p.r.fr, .int .i64 p.r.to, .int .i64 p.d, .int .i64 p.z] 76)) w9 v9 K2 O9 G9 hat
              have bA := kept K2 (lt_of HBK.out) HBK.out
              have hb9 : w9.heap[b]? = _ := (G9.block b (lt_of bA) (fun h => by have := (OA.lt _ h.symm).1; omega)).trans bA
              have KT9 : Kt w w9 := (KTq.trans (Kt.below K2)).trans (Kt.grown OA G9)
              try simp only [Act.put, List.getElem_toArray, List.getElem_cons_succ, List.getElem_cons_zero, List.setIfInBounds_toArray, List.set_cons_succ, List.set_cons_zero]
              refine hK.out _ _ ?_ (fun hHeld2 => ?_)
              · first | exact hHeld | exact HKS.out _ K0 | exact HKS.out _ K1 | exact HKS.out _ K2 | exact ⟨t9, u9⟩ | exact ⟨(setBlock_other w9 b PT _ hPb).trans t9, (setBlock_other w9 b SB _ hSb).trans u9⟩
              clear hK K hHeld
              have hHeld := hHeld2
              clear hHeld2
              refine wpAnyH_ready (rs := [14]) (by kernel_rfl) (by simp) ?_
              refine AllReadyH.cons rfl (fun K hK => ?_) AllReadyH.nil
              rw [if_pos (by kernel_rfl)]
              refine Em.wp_upd _ _ _ rfl _ _ _ rfl rfl rfl hup ?_
              try simp only [Act.put, List.getElem_toArray, List.getElem_cons_succ, List.getElem_cons_zero, List.setIfInBounds_toArray, List.set_cons_succ, List.set_cons_zero]
              refine hK.out _ _ ?_ (fun hHeld2 => ?_)
              · first | exact hHeld | exact HKS.out _ K0 | exact HKS.out _ K1 | exact HKS.out _ K2 | exact ⟨t9, u9⟩ | exact ⟨(setBlock_other w9 b PT _ hPb).trans t9, (setBlock_other w9 b SB _ hSb).trans u9⟩
              clear hK K hHeld
              have hHeld := hHeld2
              clear hHeld2
              refine wpAnyH_done (by kernel_rfl) ?_ _
              have KT10 : Kt w (setBlock w9 b (.map es3 clock3)) := KT9.trans (Kt.set hb9)
              clear bA hb9 KT9 OA G9 KTq
              have t10 := (setBlock_other w9 b PT (.map es3 clock3) hPb).trans t9
              have u10 := (setBlock_other w9 b SB (.map es3 clock3) hSb).trans u9
              have L10 : Below b w (setBlock w9 b (.map es3 clock3)) := Lq.trans L3
              clear hHeld HKS HSQ HHO HLK HST2 HLN HSB HTB O0 K0 K1 K2 lA t9 u9 hup L3 Mq Lq mq uq
              go_wp2
              go_roundw
              case rel => exact ⟨m + 1, es3, clock3, by omega, by rw [← hj]; go_num, by rw [rowH_succ, ← List.append_assoc, putA_snoc, hj, hp]; exact M3, L10, KT10, t10, u10⟩
              case measure => simp [intOf]; omega
            · go_simp
              refine hK.out _ _ ?_ (fun hHeld2 => ?_)
              · first | exact hHeld | exact HKS.out _ K0 | exact HKS.out _ K1 | exact HKS.out _ K2 | exact ⟨t9, u9⟩ | exact ⟨(setBlock_other w9 b PT _ hPb).trans t9, (setBlock_other w9 b SB _ hSb).trans u9⟩
              clear hK K hHeld
              have hHeld := hHeld2
              clear hHeld2
              refine wpAnyH_ready (rs := [6]) (by kernel_rfl) (by simp) ?_
              refine AllReadyH.cons rfl (fun K hK => ?_) (AllReadyH.nil)
              rw [if_pos (by kernel_rfl)]
              refine Em.wp_look _ _ rfl _ _ v0 rfl rfl (by first | exact HLK.out _ K0 | exact HLK.out _ K1 | exact HLK.out _ K2) ?_
              try simp only [Act.put, List.getElem_toArray, List.getElem_cons_succ, List.getElem_cons_zero, List.setIfInBounds_toArray, List.set_cons_succ, List.set_cons_zero]
              refine hK.out _ _ ?_ (fun hHeld2 => ?_)
              · first | exact hHeld | exact HKS.out _ K0 | exact HKS.out _ K1 | exact HKS.out _ K2 | exact ⟨t9, u9⟩ | exact ⟨(setBlock_other w9 b PT _ hPb).trans t9, (setBlock_other w9 b SB _ hSb).trans u9⟩
              clear hK K hHeld
              have hHeld := hHeld2
              clear hHeld2
              refine wpAnyH_ready (rs := [13]) (by kernel_rfl) (by simp) ?_
              refine AllReadyH.cons rfl (fun K hK => ?_) AllReadyH.nil
              rw [if_pos (by kernel_rfl)]
              have OA := own_below O0 K2 (Nat.le_refl _); have tA := HKS.out _ K2; refine wp_append_at _ _ 101 rfl B 76 i0 (hopV ⟨0, 0, 0, 0⟩ 0 0) 6 48 Try.underlying101 hi hz0 hz1 hz2 rfl (by decide) v0 _ _ rfl OA ⟨w1.heap.size, 0, none⟩ 1 1 (Em.hc1 p) rfl rfl (Em.six_at lA) (by intro u hu; simp only [Em.hc1, List.mem_cons, List.not_mem_nil, or_false] at hu; rcases hu with rfl | rfl | rfl | rfl | rfl | rfl <;> rfl) (by have := HLN.out; unfold maxLen; omega) (by have := HLN.out; omega) (by have := K2.size; omega) ?_
              intro v9 w9 O9 G9 hat
              have t9 : w9.heap[PT]? = _ := (G9.block PT (lt_of tA.1) (own_ne OA tA.1 (by decide))).trans tA.1
              have u9 : w9.heap[SB]? = _ := (G9.block SB (lt_of tA.2) (own_ne OA tA.2 (by decide))).trans tA.2
              obtain ⟨-, es3, clock3, hup, M3, L3, -⟩ := HST2.out (w1.alloc (.cells #[.int .i64 p.r.tr, .int .i64 p.r.dy, .int .i64 p.r.fr, .int .i64 p.r.to, .int .i64 p.d, .int .i64 p.z] 76)) w9 v9 K2 O9 G9 hat
              have bA := kept K2 (lt_of HBK.out) HBK.out
              have hb9 : w9.heap[b]? = _ := (G9.block b (lt_of bA) (fun h => by have := (OA.lt _ h.symm).1; omega)).trans bA
              have KT9 : Kt w w9 := (KTq.trans (Kt.below K2)).trans (Kt.grown OA G9)
              try simp only [Act.put, List.getElem_toArray, List.getElem_cons_succ, List.getElem_cons_zero, List.setIfInBounds_toArray, List.set_cons_succ, List.set_cons_zero]
              refine hK.out _ _ ?_ (fun hHeld2 => ?_)
              · first | exact hHeld | exact HKS.out _ K0 | exact HKS.out _ K1 | exact HKS.out _ K2 | exact ⟨t9, u9⟩ | exact ⟨(setBlock_other w9 b PT _ hPb).trans t9, (setBlock_other w9 b SB _ hSb).trans u9⟩
              clear hK K hHeld
              have hHeld := hHeld2
              clear hHeld2
              refine wpAnyH_ready (rs := [14]) (by kernel_rfl) (by simp) ?_
              refine AllReadyH.cons rfl (fun K hK => ?_) AllReadyH.nil
              rw [if_pos (by kernel_rfl)]
              refine Em.wp_upd _ _ _ rfl _ _ _ rfl rfl rfl hup ?_
              try simp only [Act.put, List.getElem_toArray, List.getElem_cons_succ, List.getElem_cons_zero, List.setIfInBounds_toArray, List.set_cons_succ, List.set_cons_zero]
              refine hK.out _ _ ?_ (fun hHeld2 => ?_)
              · first | exact hHeld | exact HKS.out _ K0 | exact HKS.out _ K1 | exact HKS.out _ K2 | exact ⟨t9, u9⟩ | exact ⟨(setBlock_other w9 b PT _ hPb).trans t9, (setBlock_other w9 b SB _ hSb).trans u9⟩
              clear hK K hHeld
              have hHeld := hHeld2
              clear hHeld2
              refine wpAnyH_done (by kernel_rfl) ?_ _
              have KT10 : Kt w (setBlock w9 b (.map es3 clock3)) := KT9.trans (Kt.set hb9)
              clear bA hb9 KT9 OA G9 KTq
              have t10 := (setBlock_other w9 b PT (.map es3 clock3) hPb).trans t9
              have u10 := (setBlock_other w9 b SB (.map es3 clock3) hSb).trans u9
              have L10 : Below b w (setBlock w9 b (.map es3 clock3)) := Lq.trans L3
              clear hHeld HKS HSQ HHO HLK HST2 HLN HSB HTB O0 K0 K1 K2 lA t9 u9 hup L3 Mq Lq mq uq
              go_wp2
              go_roundw
              case rel => exact ⟨m + 1, es3, clock3, by omega, by rw [← hj]; go_num, by rw [rowH_succ, ← List.append_assoc, putA_snoc, hj, hp]; exact M3, L10, KT10, t10, u10⟩
              case measure => simp [intOf]; omega
        · obtain rfl : j = l.length := by omega
          have hml : m = l.length - (i + 1) := by omega
          go_wp2
          go_roundw
          case rel => exact ⟨i + 1, es2, clock2, by omega, by go_num, by rw [allT_succ, ← hml]; exact Mq, Lq, KTq, mq⟩
          case measure => simp [intOf]; omega
    · obtain rfl : i = l.length := by omega
      go_wp2
      go_end0
      exact ⟨rfl, ⟨es1, clock1, M1⟩, L1, KT1⟩

end Rd
end Go.Proofs.Ytfoccmhmgdengaa
