/- The program's guessWant. -/
import Derived.Test.YtdfejmaekdgcdasDoorWnCut
import Derived.Test.YtdfejmaekdgcdasDoorWnRow
import Derived.Deep.RegionLaw
import Derived.Deep.RegionHeld3
import Derived.Deep.AppendLies
namespace Go.Proofs.YtdfejmaekdgcdasDoor
namespace Wn
open Go.ChangeShapes Go.WideShapes Go.ChangeAt Go.RowKit
open Pk (own_at own_ge own_below own_form info_of new_below join_below heap_new lt_of kept cell_at heap_old frozen_at)
open Rd (Ri Rides lgV)
open Gt (ML)
set_option linter.unusedSimpArgs false
set_option linter.unusedVariables false

set_option maxRecDepth 100000 in
set_option maxHeartbeats 16000000 in
theorem guess_val (s : ByteArray) (w : World) (hs : s.size ≤ 1048576) (M : ML w) :
    Calls Tryd.prog 26 #[.string s] w fun e w' => (∃ a cap, e = .returned (wnV (gwH s) (gwN s) a (gwR s).length cap) ∧ w'.ownsRow w.heap.size 41 4 (.slice a (gwR s).length cap) (gwR s).length (qcells (gwR s))) ∧ Below w.heap.size w w' := by
  obtain ⟨i0, hi, hz0, hz1, hz2⟩ := info_of Rd.info_ride
  have HML : Hid (∀ W, Below w.heap.size w W → ML W) := fun W L => M.on L
  have HC6 : Hid (∀ W, ML W → _) := fun W h => cutNumbers_val s 6 W hs (by omega) (by omega) h
  rw [show ((6 : Nat) : Int) = 6 from rfl] at HC6
  have HGR : Hid (gwR s = gQ (min (nW s 5) 6) (cZ s 6)) := rfl
  have HGN : Hid (gwN s = gE (min (nW s 5) 6) (cZ s 6)) := rfl
  have HGH : Hid (gwH s = ⟨(nW s 0 : Nat), (nW s 1 : Nat), (nW s 2 : Nat), (nW s 3 : Nat), (nW s 4 : Nat)⟩) := rfl
  have hr0 : (cZ s 6).size ≤ 1048576 := Nat.le_trans (cZ_size s 6) hs
  have hb5 := nW_bd s 5
  generalize gwR s = GR at *
  generalize gwH s = GH at *
  generalize gwN s = GN at *
  generalize cZ s 6 = r0 at *
  have N0 := new_below w (.cells #[.int .i64 0, .int .i64 0, .int .i64 0, .string ⟨#[]⟩, .int .i64 0, .int .i64 0, .slice none 0 0] 30)
  have m0 := heap_new w (.cells #[.int .i64 0, .int .i64 0, .int .i64 0, .string ⟨#[]⟩, .int .i64 0, .int .i64 0, .slice none 0 0] 30)
  go_enter Tryd.func26, Tryd.ntmps26
  go_wp2_with fail
  generalize w.alloc (.cells #[.int .i64 0, .int .i64 0, .int .i64 0, .string ⟨#[]⟩, .int .i64 0, .int .i64 0, .slice none 0 0] 30) = w0 at *
  refine (HC6.out _ (HML.out _ N0)).mono ?_
  rintro e w3 ⟨⟨gx, rfl, hgx0, hgx, hcx⟩, L3⟩
  have m3 := kept L3 (lt_of m0) m0
  have K3 := join_below N0 L3
  have x0 := hcx 0 (by omega)
  have x1 := hcx 1 (by omega)
  have x2 := hcx 2 (by omega)
  have x3 := hcx 3 (by omega)
  have x4 := hcx 4 (by omega)
  have x5 := hcx 5 (by omega)
  clear m0 N0 L3 hcx HC6
  generalize nW s 0 = n0 at *
  generalize nW s 1 = n1 at *
  generalize nW s 2 = n2 at *
  generalize nW s 3 = n3 at *
  generalize nW s 4 = n4 at *
  generalize nW s 5 = n5 at *
  have e0 := World.new_ne w3 ⟨gx, 0, none⟩ x0
  have hx5 : (w3.alloc (.cells #[.int .i64 (n0 : Int), .int .i64 (n1 : Int), .int .i64 (n2 : Int), .string ⟨#[]⟩, .int .i64 (n3 : Int), .int .i64 (n4 : Int), .slice none 0 0] 30)).cell? ⟨gx, 5, none⟩ = some (.int .i64 (n5 : Int)) := by rw [(new_below w3 _).cell (p := ⟨gx, 5, none⟩) hgx]; exact x5
  obtain ⟨MM, hMM⟩ : ∃ MM : Nat, min n5 6 = MM := ⟨_, rfl⟩
  have hMI : min (n5 : Int) 6 = (MM : Int) := by omega
  have hM6 : MM ≤ 6 := by omega
  rw [hMM] at HGR HGN
  clear hMM hb5
  go_wp2
  go_region_held3 (fun w' => w'.cell? ⟨gx, 0, none⟩ = some (.int .i64 (n0 : Int)) ∧ w'.cell? ⟨gx, 1, none⟩ = some (.int .i64 (n1 : Int)) ∧ w'.cell? ⟨gx, 2, none⟩ = some (.int .i64 (n2 : Int)) ∧ w'.cell? ⟨gx, 3, none⟩ = some (.int .i64 (n3 : Int)) ∧ w'.cell? ⟨gx, 4, none⟩ = some (.int .i64 (n4 : Int))) (go_keep) (fail)
  all_goals
    have mT := heap_new w3 (.cells #[.int .i64 (n0 : Int), .int .i64 (n1 : Int), .int .i64 (n2 : Int), .string ⟨#[]⟩, .int .i64 (n3 : Int), .int .i64 (n4 : Int), .slice none 0 0] 30)
    have NT := new_below w3 (.cells #[.int .i64 (n0 : Int), .int .i64 (n1 : Int), .int .i64 (n2 : Int), .string ⟨#[]⟩, .int .i64 (n3 : Int), .int .i64 (n4 : Int), .slice none 0 0] 30)
    have m4 := kept NT (lt_of m3) m3
    have K4 := join_below K3 NT
    have hTR : w3.heap.size ≠ w.heap.size := by have := lt_of m3; omega
    have hTge : w.heap.size ≤ w3.heap.size := K3.size
    clear m3 K3 NT x0 x1 x2 x3 x4 x5 e0 hgx0
    go_wp2
    generalize w3.alloc (.cells #[.int .i64 (n0 : Int), .int .i64 (n1 : Int), .int .i64 (n2 : Int), .string ⟨#[]⟩, .int .i64 (n3 : Int), .int .i64 (n4 : Int), .slice none 0 0] 30) = W3 at *
    generalize w3.heap.size = T at *
    go_loopw [3, 4, 31] (fun _ v i wr => ∃ (k n : Nat) (r : ByteArray) (done : List Ri) (a : Option Addr) (lc : Nat), v = .string r ∧ i = .int .i64 k ∧ k + n = MM ∧ Hid (done.length = k) ∧ r.size ≤ 1048576 ∧ Hid (GR = done ++ gQ n r) ∧ Hid (GN = gE n r) ∧ wr.heap[w.heap.size]? = some (.cells #[.int .i64 0, .int .i64 0, .int .i64 0, .string ⟨#[]⟩, .int .i64 0, .int .i64 0, .slice none 0 0] 30) ∧ wr.heap[T]? = some (.cells #[.int .i64 (n0 : Int), .int .i64 (n1 : Int), .int .i64 (n2 : Int), .string ⟨#[]⟩, .int .i64 (n3 : Int), .int .i64 (n4 : Int), .slice a done.length lc] 30) ∧ wr.ownsRow w.heap.size 41 4 (.slice a done.length lc) done.length (qcells done) ∧ Hid (Below w.heap.size w wr)) (fun _ _ i _ => MM - (intOf i).toNat)
    case atStart => exact ⟨0, MM, r0, [], none, 0, rfl, rfl, by omega, rfl, hr0, HGR, HGN, m4, mT, ⟨rfl, Or.inl ⟨rfl, rfl⟩⟩, by first | exact K4.drew | exact K4⟩
    case round =>
      clear m4 mT K4 HGR HGN hr0 hx5
      obtain ⟨k, n, r, done, la, lc, rfl, rfl, hkn, HDK, hr, HG, HE, m4, mT4, O4, K4⟩ := hrel
      have t6 : wr.cell? ⟨T, 6, none⟩ = some (.slice la done.length lc) := cell_at mT4 6
      have hdk : done.length ≤ 6 := by have := HDK.out; omega
      by_cases hlt : k < MM
      · obtain ⟨n', rfl⟩ : ∃ n', n = n' + 1 := ⟨n - 1, by omega⟩
        have hkI : (k : Int) < (MM : Int) := by omega
        have hwk : IntKind.i64.wrap ((k : Int) + 1) = (k : Int) + 1 := by rw [IntKind.wrap_i64]; omega
        have HC4 : Hid (∀ W, ML W → _) := fun W h => cutNumbers_val r 4 W hr (by omega) (by omega) h
        rw [show ((4 : Nat) : Int) = 4 from rfl] at HC4
        have HLI : Hid (gQ (n' + 1) r = ⟨(nW r 0 : Nat), (nW r 1 : Nat), (nW r 2 : Nat), (nW r 3 : Nat)⟩ :: gQ n' (cZ r 4)) := rfl
        have HLE : Hid (gE (n' + 1) r = gE n' (cZ r 4)) := rfl
        have hr2 : (cZ r 4).size ≤ 1048576 := Nat.le_trans (cZ_size r 4) hr
        rw [HLI.out] at HG
        rw [HLE.out] at HE
        generalize cZ r 4 = r2 at *
        go_wp2_with fail
        refine (HC4.out _ (HML.out _ K4.out)).mono ?_
        rintro e w5 ⟨⟨hx, rfl, hwx, hgx6, hcx6⟩, L5⟩
        have m5 := kept L5 (lt_of m4) m4
        have mT5 := kept L5 (lt_of mT4) mT4
        have O5 := own_below O4 L5 (Nat.le_refl _)
        have K5 := join_below K4.out L5
        have hTw : T < wr.heap.size := lt_of mT4
        have HLT : Hid (∀ k', (Value.slice la done.length lc).ownBlock = some k' → k' < wr.heap.size) := fun k' h => (O4.lt k' h).2
        have x0 := hcx6 0 (by omega)
        have x1 := hcx6 1 (by omega)
        have x2 := hcx6 2 (by omega)
        have x3 := hcx6 3 (by omega)
        clear m4 mT4 O4 K4 L5 t6 HC4 HLI HLE hcx6
        generalize nW r 0 = p0 at *
        generalize nW r 1 = p1 at *
        generalize nW r 2 = p2 at *
        generalize nW r 3 = p3 at *
        have tx : w5.cell? ⟨T, 6, none⟩ = some (.slice la done.length lc) := cell_at mT5 6
        have txA : (w5.alloc (.cells #[.int .i64 (p0 : Int), .int .i64 (p1 : Int), .int .i64 (p2 : Int), .int .i64 (p3 : Int)] 41)).cell? ⟨T, 6, none⟩ = some (.slice la done.length lc) := cell_at (heap_old mT5 _) 6
        have hTx : T ≠ hx := by omega
        have aT : (Value.slice la done.length lc).ownBlock ≠ some T := Pk.own_ne' O5 mT5 (by decide)
        have aX : (Value.slice la done.length lc).ownBlock ≠ some hx := fun h => by have := HLT.out hx h; omega
        have aR : (Value.slice la done.length lc).ownBlock ≠ some w.heap.size := Pk.own_ne' O5 m5 (by decide)
        have htl : T < w5.heap.size := lt_of mT5
        have hkm : done.length + 1 ≤ maxLen := by unfold maxLen; omega
        have hkb : (done.length + 1) * 32 ≤ 140737488355328 := by omega
        have hbs : w.heap.size ≤ w5.heap.size := K5.size
        have HG2 : Hid (GR = (done ++ [⟨p0, p1, p2, p3⟩]) ++ gQ n' r2) := by
          show _ = _
          rw [HG.out, List.append_assoc]
          rfl
        go_wp2
        refine wp_region_held_drew (S := (fun w' => w'.cell? ⟨hx, 0, none⟩ = some (.int .i64 (p0 : Int)) ∧ w'.cell? ⟨hx, 1, none⟩ = some (.int .i64 (p1 : Int)) ∧ w'.cell? ⟨hx, 2, none⟩ = some (.int .i64 (p2 : Int)) ∧ w'.cell? ⟨hx, 3, none⟩ = some (.int .i64 (p3 : Int)))) (by kernel_rfl) ?_ (fun hHeld => ?_)
        · exact ⟨x0, x1, x2, x3⟩
        refine wpAnyH_take (i := 0) (oi := { dst := some 38, op := Op.fieldAddr 30 (Operand.tmp 5) 6, type := 0, pos := "l10_log.go:121", after := #[], guard := none }) (v := ?_) rfl (by kernel_rfl) (by kernel_rfl) (by kernel_rfl) (fun _ _ _ h => h) (Or.inl ⟨by rfl, ?_⟩) (by assumption) ?_
        rotate_left 1
        · (intro wS hSw; (try dsimp only at hSw); go_simp; try (with_reducible rfl))
        (try simp only [Act.put, List.setIfInBounds_toArray, List.set_cons_zero, List.set_cons_succ])
        refine wpAnyH_take (i := 2) (oi := { dst := some 40, op := Op.move (Operand.tmp 3), type := 39, pos := "l10_log.go:121", after := #[], guard := none }) (v := ?_) rfl (by kernel_rfl) (by kernel_rfl) (by kernel_rfl) (fun _ _ _ h => h) (Or.inl ⟨by rfl, ?_⟩) (by assumption) ?_
        rotate_left 1
        · (intro wS hSw; (try dsimp only at hSw); go_simp; try (with_reducible rfl))
        (try simp only [Act.put, List.setIfInBounds_toArray, List.set_cons_zero, List.set_cons_succ])
        refine wpAnyH_take (i := 3) (oi := { dst := some 41, op := Op.indexAddr 39 (Operand.tmp 40) (Operand.const (Value.int IntKind.i64 0)), type := 0, pos := "l10_log.go:121", after := #[{ on := 2, ground := Ground.data }], guard := none }) (v := ?_) rfl (by kernel_rfl) (by kernel_rfl) (by kernel_rfl) (fun _ _ _ h => h) (Or.inl ⟨by rfl, ?_⟩) (by assumption) ?_
        rotate_left 1
        · (intro wS hSw; (try dsimp only at hSw); go_simp; try (with_reducible rfl))
        (try simp only [Act.put, List.setIfInBounds_toArray, List.set_cons_zero, List.set_cons_succ])
        refine wpAnyH_take (i := 4) (oi := { dst := some 42, op := Op.load 3 (Operand.tmp 41), type := 3, pos := "l10_log.go:121", after := #[{ on := 3, ground := Ground.data }], guard := none }) (v := ?_) rfl (by kernel_rfl) (by kernel_rfl) (by kernel_rfl) (fun _ _ _ h => h) (Or.inl ⟨by rfl, ?_⟩) (by assumption) ?_
        rotate_left 1
        · (intro wS hSw; (try dsimp only at hSw); go_simp; try (with_reducible rfl))
        (try simp only [Act.put, List.setIfInBounds_toArray, List.set_cons_zero, List.set_cons_succ])
        refine wpAnyH_take (i := 5) (oi := { dst := some 43, op := Op.move (Operand.tmp 3), type := 39, pos := "l10_log.go:121", after := #[], guard := none }) (v := ?_) rfl (by kernel_rfl) (by kernel_rfl) (by kernel_rfl) (fun _ _ _ h => h) (Or.inl ⟨by rfl, ?_⟩) (by assumption) ?_
        rotate_left 1
        · (intro wS hSw; (try dsimp only at hSw); go_simp; try (with_reducible rfl))
        (try simp only [Act.put, List.setIfInBounds_toArray, List.set_cons_zero, List.set_cons_succ])
        refine wpAnyH_take (i := 6) (oi := { dst := some 44, op := Op.indexAddr 39 (Operand.tmp 43) (Operand.const (Value.int IntKind.i64 1)), type := 0, pos := "l10_log.go:121", after := #[{ on := 5, ground := Ground.data }], guard := none }) (v := ?_) rfl (by kernel_rfl) (by kernel_rfl) (by kernel_rfl) (fun _ _ _ h => h) (Or.inl ⟨by rfl, ?_⟩) (by assumption) ?_
        rotate_left 1
        · (intro wS hSw; (try dsimp only at hSw); go_simp; try (with_reducible rfl))
        (try simp only [Act.put, List.setIfInBounds_toArray, List.set_cons_zero, List.set_cons_succ])
        refine wpAnyH_take (i := 7) (oi := { dst := some 45, op := Op.load 3 (Operand.tmp 44), type := 3, pos := "l10_log.go:121", after := #[{ on := 6, ground := Ground.data }], guard := none }) (v := ?_) rfl (by kernel_rfl) (by kernel_rfl) (by kernel_rfl) (fun _ _ _ h => h) (Or.inl ⟨by rfl, ?_⟩) (by assumption) ?_
        rotate_left 1
        · (intro wS hSw; (try dsimp only at hSw); go_simp; try (with_reducible rfl))
        (try simp only [Act.put, List.setIfInBounds_toArray, List.set_cons_zero, List.set_cons_succ])
        refine wpAnyH_take (i := 8) (oi := { dst := some 46, op := Op.move (Operand.tmp 3), type := 39, pos := "l10_log.go:121", after := #[], guard := none }) (v := ?_) rfl (by kernel_rfl) (by kernel_rfl) (by kernel_rfl) (fun _ _ _ h => h) (Or.inl ⟨by rfl, ?_⟩) (by assumption) ?_
        rotate_left 1
        · (intro wS hSw; (try dsimp only at hSw); go_simp; try (with_reducible rfl))
        (try simp only [Act.put, List.setIfInBounds_toArray, List.set_cons_zero, List.set_cons_succ])
        refine wpAnyH_take (i := 9) (oi := { dst := some 47, op := Op.indexAddr 39 (Operand.tmp 46) (Operand.const (Value.int IntKind.i64 2)), type := 0, pos := "l10_log.go:121", after := #[{ on := 8, ground := Ground.data }], guard := none }) (v := ?_) rfl (by kernel_rfl) (by kernel_rfl) (by kernel_rfl) (fun _ _ _ h => h) (Or.inl ⟨by rfl, ?_⟩) (by assumption) ?_
        rotate_left 1
        · (intro wS hSw; (try dsimp only at hSw); go_simp; try (with_reducible rfl))
        (try simp only [Act.put, List.setIfInBounds_toArray, List.set_cons_zero, List.set_cons_succ])
        refine wpAnyH_take (i := 10) (oi := { dst := some 48, op := Op.load 3 (Operand.tmp 47), type := 3, pos := "l10_log.go:121", after := #[{ on := 9, ground := Ground.data }], guard := none }) (v := ?_) rfl (by kernel_rfl) (by kernel_rfl) (by kernel_rfl) (fun _ _ _ h => h) (Or.inl ⟨by rfl, ?_⟩) (by assumption) ?_
        rotate_left 1
        · (intro wS hSw; (try dsimp only at hSw); go_simp; try (with_reducible rfl))
        (try simp only [Act.put, List.setIfInBounds_toArray, List.set_cons_zero, List.set_cons_succ])
        refine wpAnyH_take (i := 11) (oi := { dst := some 49, op := Op.move (Operand.tmp 3), type := 39, pos := "l10_log.go:121", after := #[], guard := none }) (v := ?_) rfl (by kernel_rfl) (by kernel_rfl) (by kernel_rfl) (fun _ _ _ h => h) (Or.inl ⟨by rfl, ?_⟩) (by assumption) ?_
        rotate_left 1
        · (intro wS hSw; (try dsimp only at hSw); go_simp; try (with_reducible rfl))
        (try simp only [Act.put, List.setIfInBounds_toArray, List.set_cons_zero, List.set_cons_succ])
        refine wpAnyH_take (i := 12) (oi := { dst := some 50, op := Op.indexAddr 39 (Operand.tmp 49) (Operand.const (Value.int IntKind.i64 3)), type := 0, pos := "l10_log.go:121", after := #[{ on := 11, ground := Ground.data }], guard := none }) (v := ?_) rfl (by kernel_rfl) (by kernel_rfl) (by kernel_rfl) (fun _ _ _ h => h) (Or.inl ⟨by rfl, ?_⟩) (by assumption) ?_
        rotate_left 1
        · (intro wS hSw; (try dsimp only at hSw); go_simp; try (with_reducible rfl))
        (try simp only [Act.put, List.setIfInBounds_toArray, List.set_cons_zero, List.set_cons_succ])
        refine wpAnyH_take (i := 13) (oi := { dst := some 51, op := Op.load 3 (Operand.tmp 50), type := 3, pos := "l10_log.go:121", after := #[{ on := 12, ground := Ground.data }], guard := none }) (v := ?_) rfl (by kernel_rfl) (by kernel_rfl) (by kernel_rfl) (fun _ _ _ h => h) (Or.inl ⟨by rfl, ?_⟩) (by assumption) ?_
        rotate_left 1
        · (intro wS hSw; (try dsimp only at hSw); go_simp; try (with_reducible rfl))
        (try simp only [Act.put, List.setIfInBounds_toArray, List.set_cons_zero, List.set_cons_succ])
        refine wpAnyH_take (i := 14) (oi := { dst := some 52, op := Op.build 41 #[(0, Operand.tmp 42), (1, Operand.tmp 45), (2, Operand.tmp 48), (3, Operand.tmp 51)], type := 41, pos := "l10_log.go:121", after := #[{ on := 4, ground := Ground.data }, { on := 7, ground := Ground.data }, { on := 10, ground := Ground.data }, { on := 13, ground := Ground.data }], guard := none }) (v := ?_) rfl (by kernel_rfl) (by kernel_rfl) (by kernel_rfl) (fun _ _ _ h => h) (Or.inl ⟨by rfl, ?_⟩) (by assumption) ?_
        rotate_left 1
        · (intro wS hSw; (try dsimp only at hSw); go_simp; try (with_reducible rfl))
        (try simp only [Act.put, List.setIfInBounds_toArray, List.set_cons_zero, List.set_cons_succ])
        have yy0 : (w5.alloc (.cells #[.int .i64 (p0 : Int), .int .i64 (p1 : Int), .int .i64 (p2 : Int), .int .i64 (p3 : Int)] 41)).cell? ⟨hx, 0, none⟩ = some (.int .i64 (p0 : Int)) := by rw [(new_below w5 _).cell (p := ⟨hx, 0, none⟩) hgx6]; exact x0
        have yy1 : (w5.alloc (.cells #[.int .i64 (p0 : Int), .int .i64 (p1 : Int), .int .i64 (p2 : Int), .int .i64 (p3 : Int)] 41)).cell? ⟨hx, 1, none⟩ = some (.int .i64 (p1 : Int)) := by rw [(new_below w5 _).cell (p := ⟨hx, 1, none⟩) hgx6]; exact x1
        have yy2 : (w5.alloc (.cells #[.int .i64 (p0 : Int), .int .i64 (p1 : Int), .int .i64 (p2 : Int), .int .i64 (p3 : Int)] 41)).cell? ⟨hx, 2, none⟩ = some (.int .i64 (p2 : Int)) := by rw [(new_below w5 _).cell (p := ⟨hx, 2, none⟩) hgx6]; exact x2
        have yy3 : (w5.alloc (.cells #[.int .i64 (p0 : Int), .int .i64 (p1 : Int), .int .i64 (p2 : Int), .int .i64 (p3 : Int)] 41)).cell? ⟨hx, 3, none⟩ = some (.int .i64 (p3 : Int)) := by rw [(new_below w5 _).cell (p := ⟨hx, 3, none⟩) hgx6]; exact x3
        refine wpAnyH_ready (rs := [1, 15]) (by kernel_rfl) (by simp) ?_
        refine AllReadyH.cons (o := { dst := some 39, op := Op.load 28 (Operand.tmp 38), type := 28, pos := "l10_log.go:121", after := #[{ on := 0, ground := Ground.data }], guard := none }) rfl (fun K hK => ?_) ?_
        · go_simp
          refine hK.out _ _ ?_ (fun hHeld => ?_)
          · exact ⟨x0, x1, x2, x3⟩
          clear hK K
          (try simp only [Act.put, List.setIfInBounds_toArray, List.set_cons_zero, List.set_cons_succ])
          refine wpAnyH_ready (rs := [15]) (by kernel_rfl) (by simp) ?_
          refine AllReadyH.cons (o := { dst := some 53, op := Op.buildSlice 28 1 #[(0, Operand.tmp 52)], type := 28, pos := "l10_log.go:121", after := #[{ on := 14, ground := Ground.data }], guard := none }) rfl (fun K hK => ?_) AllReadyH.nil
          go_simp
          refine hK.out _ _ ?_ (fun hHeld => ?_)
          · exact ⟨yy0, yy1, yy2, yy3⟩
          clear hK K
          (try simp only [Act.put, List.setIfInBounds_toArray, List.set_cons_zero, List.set_cons_succ])
          refine wpAnyH_ready (rs := [16]) (by kernel_rfl) (by simp) ?_
          refine AllReadyH.cons (o := { dst := some 54, op := Op.call { callee := Callee.builtin Builtin.append, args := #[Operand.tmp 39, Operand.tmp 53], argTypes := #[28, 28] }, type := 28, pos := "l10_log.go:121", after := #[{ on := 1, ground := Ground.data }, { on := 15, ground := Ground.data }], guard := none }) rfl (fun K hK => ?_) AllReadyH.nil
          refine step_append_lies _ (by rfl) _ _ _ (by rfl) w.heap.size 41 i0 _ 4 32 Tryd.underlying28 hi hz0 hz1 hz2 rfl (by omega) (.slice la done.length lc) done.length (qcells done) (by rfl) ((O5.alloc _).drew) ⟨w5.heap.size, 0, none⟩ 1 1 (qc1 ⟨p0, p1, p2, p3⟩) (by rfl) (by rfl) (World.news_of_block (cs := #[.int .i64 (p0 : Int), .int .i64 (p1 : Int), .int .i64 (p2 : Int), .int .i64 (p3 : Int)]) (t := 41) (fr := (0, 0)) (heap_alloc_new w5 _)) (by simp [qc1, Value.oneCell']) (by omega) hkm hkb (by simp; omega) (w5.heap.size + 1) (by simp) ?_
          intro gg cap6 w6 hown1 hgrow hat hlt
          have mT6 : w6.heap[T]? = some (.cells #[.int .i64 (n0 : Int), .int .i64 (n1 : Int), .int .i64 (n2 : Int), .string ⟨#[]⟩, .int .i64 (n3 : Int), .int .i64 (n4 : Int), .slice la done.length lc] 30) := (by rw [hgrow.block T (by simp; omega) (Ne.symm aT)]; exact heap_old mT5 _)
          have tf6 : w6.frozen? ⟨T, 6, none⟩ = false := frozen_at mT6 6
          have tx6 : w6.cell? ⟨T, 6, none⟩ = some (.slice la done.length lc) := cell_at mT6 6
          have q0 : w6.cell? ⟨hx, 0, none⟩ = some (.int .i64 (p0 : Int)) := (by rw [hgrow.cell_far _ (by simp; omega) (Ne.symm aX)]; exact yy0)
          have q1 : w6.cell? ⟨hx, 1, none⟩ = some (.int .i64 (p1 : Int)) := (by rw [hgrow.cell_far _ (by simp; omega) (Ne.symm aX)]; exact yy1)
          have q2 : w6.cell? ⟨hx, 2, none⟩ = some (.int .i64 (p2 : Int)) := (by rw [hgrow.cell_far _ (by simp; omega) (Ne.symm aX)]; exact yy2)
          have q3 : w6.cell? ⟨hx, 3, none⟩ = some (.int .i64 (p3 : Int)) := (by rw [hgrow.cell_far _ (by simp; omega) (Ne.symm aX)]; exact yy3)
          refine hK.out _ _ ?_ (fun hHeld => ?_)
          · exact ⟨q0, q1, q2, q3⟩
          clear hK K
          (try simp only [Act.put, List.setIfInBounds_toArray, List.set_cons_zero, List.set_cons_succ])
          refine wpAnyH_take (i := 17) (oi := { dst := some 55, op := Op.fieldAddr 30 (Operand.tmp 5) 6, type := 0, pos := "l10_log.go:121", after := #[{ on := 0, ground := Ground.phase }, { on := 1, ground := Ground.phase }, { on := 2, ground := Ground.phase }, { on := 3, ground := Ground.phase }, { on := 4, ground := Ground.phase }, { on := 5, ground := Ground.phase }, { on := 6, ground := Ground.phase }, { on := 7, ground := Ground.phase }, { on := 8, ground := Ground.phase }, { on := 9, ground := Ground.phase }, { on := 10, ground := Ground.phase }, { on := 11, ground := Ground.phase }, { on := 12, ground := Ground.phase }, { on := 13, ground := Ground.phase }, { on := 14, ground := Ground.phase }, { on := 15, ground := Ground.phase }, { on := 16, ground := Ground.phase }], guard := none }) (v := ?_) rfl (by kernel_rfl) (by kernel_rfl) (by kernel_rfl) (fun _ _ _ h => h) (Or.inl ⟨by rfl, ?_⟩) (by assumption) ?_
          rotate_left 1
          · (intro wS hSw; (try dsimp only at hSw); go_simp; try (with_reducible rfl))
          (try simp only [Act.put, List.setIfInBounds_toArray, List.set_cons_zero, List.set_cons_succ])
          refine wpAnyH_ready (rs := [18]) (by kernel_rfl) (by simp) ?_
          refine AllReadyH.cons (o := { dst := none, op := Op.store 28 (Operand.tmp 55) (Operand.tmp 54), type := 0, pos := "l10_log.go:121", after := #[{ on := 17, ground := Ground.data }, { on := 16, ground := Ground.data }, { on := 16, ground := Ground.chain }, { on := 0, ground := Ground.phase }, { on := 1, ground := Ground.phase }, { on := 2, ground := Ground.phase }, { on := 3, ground := Ground.phase }, { on := 4, ground := Ground.phase }, { on := 5, ground := Ground.phase }, { on := 6, ground := Ground.phase }, { on := 7, ground := Ground.phase }, { on := 8, ground := Ground.phase }, { on := 9, ground := Ground.phase }, { on := 10, ground := Ground.phase }, { on := 11, ground := Ground.phase }, { on := 12, ground := Ground.phase }, { on := 13, ground := Ground.phase }, { on := 14, ground := Ground.phase }, { on := 15, ground := Ground.phase }, { on := 16, ground := Ground.phase }], guard := none }) rfl (fun K hK => ?_) AllReadyH.nil
          go_simp
          refine hK.out _ _ ?_ (fun hHeld => ?_)
          · exact ⟨by rw [Tk.cell_other (Ne.symm hTx)]; exact q0, by rw [Tk.cell_other (Ne.symm hTx)]; exact q1, by rw [Tk.cell_other (Ne.symm hTx)]; exact q2, by rw [Tk.cell_other (Ne.symm hTx)]; exact q3⟩
          clear hK K
          (try simp only [Act.put, List.setIfInBounds_toArray, List.set_cons_zero, List.set_cons_succ])
          refine wpAnyH_done (by kernel_rfl) ?_ _
          have hgT : gg ≠ T := by
            rintro rfl
            rcases hat with h | h
            · exact aT h
            · omega
          have mR6 : w6.heap[w.heap.size]? = some (.cells #[.int .i64 0, .int .i64 0, .int .i64 0, .string ⟨#[]⟩, .int .i64 0, .int .i64 0, .slice none 0 0] 30) := (by rw [hgrow.block w.heap.size (by have := lt_of m5; simp; omega) (Ne.symm aR)]; exact heap_old m5 _)
          have mR7 := Tk.h_other (i := 6) mR6 (Ne.symm hTR) (.slice (some ⟨gg, 0, none⟩) (done.length + 1) cap6)
          have mT7 := Tk.h_set (i := 6) mT6 (.slice (some ⟨gg, 0, none⟩) (done.length + 1) cap6)
          have O7 := own_off (b := T) (i := 6) hown1 hgT (.slice (some ⟨gg, 0, none⟩) (done.length + 1) cap6)
          rw [qcells_snoc] at O7
          have hdl : Hid (done.length + 1 = (done ++ [(⟨p0, p1, p2, p3⟩ : Ri)]).length) := by show _ = _; simp
          have K6 : Below w.heap.size w w6 := (K5.alloc hbs _).drew.grown hgrow (by simp; omega) (fun m h => own_ge O5 m h)
          have K7 := K6.setCell (p := ⟨T, 6, none⟩) (by show w.heap.size ≤ T; omega) (.slice (some ⟨gg, 0, none⟩) (done.length + 1) cap6)
          clear hkm hkb hMI hs
          go_wp2
          go_roundw
          case rel => exact ⟨k + 1, n', r2, done ++ [⟨p0, p1, p2, p3⟩], some ⟨gg, 0, none⟩, cap6, rfl, by go_num, by omega, (by show (done ++ [(⟨p0, p1, p2, p3⟩ : Ri)]).length = k + 1; rw [List.length_append, HDK.out]; rfl), hr2, HG2, HE, mR7, by rw [← hdl.out]; exact mT7, by rw [← hdl.out]; exact O7, K7⟩
          case measure => simp [intOf]; omega
        refine AllReadyH.cons (o := { dst := some 53, op := Op.buildSlice 28 1 #[(0, Operand.tmp 52)], type := 28, pos := "l10_log.go:121", after := #[{ on := 14, ground := Ground.data }], guard := none }) rfl (fun K hK => ?_) AllReadyH.nil
        go_simp
        refine hK.out _ _ ?_ (fun hHeld => ?_)
        · exact ⟨yy0, yy1, yy2, yy3⟩
        clear hK K
        (try simp only [Act.put, List.setIfInBounds_toArray, List.set_cons_zero, List.set_cons_succ])
        refine wpAnyH_ready (rs := [1]) (by kernel_rfl) (by simp) ?_
        refine AllReadyH.cons (o := { dst := some 39, op := Op.load 28 (Operand.tmp 38), type := 28, pos := "l10_log.go:121", after := #[{ on := 0, ground := Ground.data }], guard := none }) rfl (fun K hK => ?_) AllReadyH.nil
        go_simp
        refine hK.out _ _ ?_ (fun hHeld => ?_)
        · exact ⟨yy0, yy1, yy2, yy3⟩
        clear hK K
        (try simp only [Act.put, List.setIfInBounds_toArray, List.set_cons_zero, List.set_cons_succ])
        refine wpAnyH_ready (rs := [16]) (by kernel_rfl) (by simp) ?_
        refine AllReadyH.cons (o := { dst := some 54, op := Op.call { callee := Callee.builtin Builtin.append, args := #[Operand.tmp 39, Operand.tmp 53], argTypes := #[28, 28] }, type := 28, pos := "l10_log.go:121", after := #[{ on := 1, ground := Ground.data }, { on := 15, ground := Ground.data }], guard := none }) rfl (fun K hK => ?_) AllReadyH.nil
        refine step_append_lies _ (by rfl) _ _ _ (by rfl) w.heap.size 41 i0 _ 4 32 Tryd.underlying28 hi hz0 hz1 hz2 rfl (by omega) (.slice la done.length lc) done.length (qcells done) (by rfl) ((O5.alloc _).drew) ⟨w5.heap.size, 0, none⟩ 1 1 (qc1 ⟨p0, p1, p2, p3⟩) (by rfl) (by rfl) (World.news_of_block (cs := #[.int .i64 (p0 : Int), .int .i64 (p1 : Int), .int .i64 (p2 : Int), .int .i64 (p3 : Int)]) (t := 41) (fr := (0, 0)) (heap_alloc_new w5 _)) (by simp [qc1, Value.oneCell']) (by omega) hkm hkb (by simp; omega) (w5.heap.size + 1) (by simp) ?_
        intro gg cap6 w6 hown1 hgrow hat hlt
        have mT6 : w6.heap[T]? = some (.cells #[.int .i64 (n0 : Int), .int .i64 (n1 : Int), .int .i64 (n2 : Int), .string ⟨#[]⟩, .int .i64 (n3 : Int), .int .i64 (n4 : Int), .slice la done.length lc] 30) := (by rw [hgrow.block T (by simp; omega) (Ne.symm aT)]; exact heap_old mT5 _)
        have tf6 : w6.frozen? ⟨T, 6, none⟩ = false := frozen_at mT6 6
        have tx6 : w6.cell? ⟨T, 6, none⟩ = some (.slice la done.length lc) := cell_at mT6 6
        have q0 : w6.cell? ⟨hx, 0, none⟩ = some (.int .i64 (p0 : Int)) := (by rw [hgrow.cell_far _ (by simp; omega) (Ne.symm aX)]; exact yy0)
        have q1 : w6.cell? ⟨hx, 1, none⟩ = some (.int .i64 (p1 : Int)) := (by rw [hgrow.cell_far _ (by simp; omega) (Ne.symm aX)]; exact yy1)
        have q2 : w6.cell? ⟨hx, 2, none⟩ = some (.int .i64 (p2 : Int)) := (by rw [hgrow.cell_far _ (by simp; omega) (Ne.symm aX)]; exact yy2)
        have q3 : w6.cell? ⟨hx, 3, none⟩ = some (.int .i64 (p3 : Int)) := (by rw [hgrow.cell_far _ (by simp; omega) (Ne.symm aX)]; exact yy3)
        refine hK.out _ _ ?_ (fun hHeld => ?_)
        · exact ⟨q0, q1, q2, q3⟩
        clear hK K
        (try simp only [Act.put, List.setIfInBounds_toArray, List.set_cons_zero, List.set_cons_succ])
        refine wpAnyH_take (i := 17) (oi := { dst := some 55, op := Op.fieldAddr 30 (Operand.tmp 5) 6, type := 0, pos := "l10_log.go:121", after := #[{ on := 0, ground := Ground.phase }, { on := 1, ground := Ground.phase }, { on := 2, ground := Ground.phase }, { on := 3, ground := Ground.phase }, { on := 4, ground := Ground.phase }, { on := 5, ground := Ground.phase }, { on := 6, ground := Ground.phase }, { on := 7, ground := Ground.phase }, { on := 8, ground := Ground.phase }, { on := 9, ground := Ground.phase }, { on := 10, ground := Ground.phase }, { on := 11, ground := Ground.phase }, { on := 12, ground := Ground.phase }, { on := 13, ground := Ground.phase }, { on := 14, ground := Ground.phase }, { on := 15, ground := Ground.phase }, { on := 16, ground := Ground.phase }], guard := none }) (v := ?_) rfl (by kernel_rfl) (by kernel_rfl) (by kernel_rfl) (fun _ _ _ h => h) (Or.inl ⟨by rfl, ?_⟩) (by assumption) ?_
        rotate_left 1
        · (intro wS hSw; (try dsimp only at hSw); go_simp; try (with_reducible rfl))
        (try simp only [Act.put, List.setIfInBounds_toArray, List.set_cons_zero, List.set_cons_succ])
        refine wpAnyH_ready (rs := [18]) (by kernel_rfl) (by simp) ?_
        refine AllReadyH.cons (o := { dst := none, op := Op.store 28 (Operand.tmp 55) (Operand.tmp 54), type := 0, pos := "l10_log.go:121", after := #[{ on := 17, ground := Ground.data }, { on := 16, ground := Ground.data }, { on := 16, ground := Ground.chain }, { on := 0, ground := Ground.phase }, { on := 1, ground := Ground.phase }, { on := 2, ground := Ground.phase }, { on := 3, ground := Ground.phase }, { on := 4, ground := Ground.phase }, { on := 5, ground := Ground.phase }, { on := 6, ground := Ground.phase }, { on := 7, ground := Ground.phase }, { on := 8, ground := Ground.phase }, { on := 9, ground := Ground.phase }, { on := 10, ground := Ground.phase }, { on := 11, ground := Ground.phase }, { on := 12, ground := Ground.phase }, { on := 13, ground := Ground.phase }, { on := 14, ground := Ground.phase }, { on := 15, ground := Ground.phase }, { on := 16, ground := Ground.phase }], guard := none }) rfl (fun K hK => ?_) AllReadyH.nil
        go_simp
        refine hK.out _ _ ?_ (fun hHeld => ?_)
        · exact ⟨by rw [Tk.cell_other (Ne.symm hTx)]; exact q0, by rw [Tk.cell_other (Ne.symm hTx)]; exact q1, by rw [Tk.cell_other (Ne.symm hTx)]; exact q2, by rw [Tk.cell_other (Ne.symm hTx)]; exact q3⟩
        clear hK K
        (try simp only [Act.put, List.setIfInBounds_toArray, List.set_cons_zero, List.set_cons_succ])
        refine wpAnyH_done (by kernel_rfl) ?_ _
        have hgT : gg ≠ T := by
          rintro rfl
          rcases hat with h | h
          · exact aT h
          · omega
        have mR6 : w6.heap[w.heap.size]? = some (.cells #[.int .i64 0, .int .i64 0, .int .i64 0, .string ⟨#[]⟩, .int .i64 0, .int .i64 0, .slice none 0 0] 30) := (by rw [hgrow.block w.heap.size (by have := lt_of m5; simp; omega) (Ne.symm aR)]; exact heap_old m5 _)
        have mR7 := Tk.h_other (i := 6) mR6 (Ne.symm hTR) (.slice (some ⟨gg, 0, none⟩) (done.length + 1) cap6)
        have mT7 := Tk.h_set (i := 6) mT6 (.slice (some ⟨gg, 0, none⟩) (done.length + 1) cap6)
        have O7 := own_off (b := T) (i := 6) hown1 hgT (.slice (some ⟨gg, 0, none⟩) (done.length + 1) cap6)
        rw [qcells_snoc] at O7
        have hdl : Hid (done.length + 1 = (done ++ [(⟨p0, p1, p2, p3⟩ : Ri)]).length) := by show _ = _; simp
        have K6 : Below w.heap.size w w6 := (K5.alloc hbs _).drew.grown hgrow (by simp; omega) (fun m h => own_ge O5 m h)
        have K7 := K6.setCell (p := ⟨T, 6, none⟩) (by show w.heap.size ≤ T; omega) (.slice (some ⟨gg, 0, none⟩) (done.length + 1) cap6)
        clear hkm hkb hMI hs
        go_wp2
        go_roundw
        case rel => exact ⟨k + 1, n', r2, done ++ [⟨p0, p1, p2, p3⟩], some ⟨gg, 0, none⟩, cap6, rfl, by go_num, by omega, (by show (done ++ [(⟨p0, p1, p2, p3⟩ : Ri)]).length = k + 1; rw [List.length_append, HDK.out]; rfl), hr2, HG2, HE, mR7, by rw [← hdl.out]; exact mT7, by rw [← hdl.out]; exact O7, K7⟩
        case measure => simp [intOf]; omega
      · obtain rfl : k = MM := by omega
        obtain rfl : n = 0 := by omega
        have hkI : ¬ (k : Int) < (k : Int) := by omega
        rw [show gQ 0 r = [] from rfl, List.append_nil] at HG
        rw [show gE 0 r = r from rfl] at HE
        have a0 : wr.cell? ⟨w.heap.size, 0, none⟩ = some (.int .i64 0) := cell_at m4 0
        have a1 : wr.cell? ⟨w.heap.size, 1, none⟩ = some (.int .i64 0) := cell_at m4 1
        have a2 : wr.cell? ⟨w.heap.size, 2, none⟩ = some (.int .i64 0) := cell_at m4 2
        have a3 : wr.cell? ⟨w.heap.size, 3, none⟩ = some (.string ⟨#[]⟩) := cell_at m4 3
        have a4 : wr.cell? ⟨w.heap.size, 4, none⟩ = some (.int .i64 0) := cell_at m4 4
        have a5 : wr.cell? ⟨w.heap.size, 5, none⟩ = some (.int .i64 0) := cell_at m4 5
        have a6 : wr.cell? ⟨w.heap.size, 6, none⟩ = some (.slice none 0 0) := cell_at m4 6
        have f0 : wr.frozen? ⟨w.heap.size, 0, none⟩ = false := frozen_at m4 0
        have f1 : wr.frozen? ⟨w.heap.size, 1, none⟩ = false := frozen_at m4 1
        have f2 : wr.frozen? ⟨w.heap.size, 2, none⟩ = false := frozen_at m4 2
        have f3 : wr.frozen? ⟨w.heap.size, 3, none⟩ = false := frozen_at m4 3
        have f4 : wr.frozen? ⟨w.heap.size, 4, none⟩ = false := frozen_at m4 4
        have f5 : wr.frozen? ⟨w.heap.size, 5, none⟩ = false := frozen_at m4 5
        have f6 : wr.frozen? ⟨w.heap.size, 6, none⟩ = false := frozen_at m4 6
        have b0 : wr.cell? ⟨T, 0, none⟩ = some (.int .i64 (n0 : Int)) := cell_at mT4 0
        have b1 : wr.cell? ⟨T, 1, none⟩ = some (.int .i64 (n1 : Int)) := cell_at mT4 1
        have b2 : wr.cell? ⟨T, 2, none⟩ = some (.int .i64 (n2 : Int)) := cell_at mT4 2
        have b3 : wr.cell? ⟨T, 3, none⟩ = some (.string ⟨#[]⟩) := cell_at mT4 3
        have b4 : wr.cell? ⟨T, 4, none⟩ = some (.int .i64 (n3 : Int)) := cell_at mT4 4
        have b5 : wr.cell? ⟨T, 5, none⟩ = some (.int .i64 (n4 : Int)) := cell_at mT4 5
        have b6 : wr.cell? ⟨T, 6, none⟩ = some (.slice la done.length lc) := cell_at mT4 6
        have fT : wr.frozen? ⟨T, 3, none⟩ = false := frozen_at mT4 3
        obtain rfl : GR = done := HG
        obtain rfl : GN = r := HE
        have OE : Hid (wr.ownsRow w.heap.size 41 4 (.slice la GR.length lc) GR.length (qcells GR)) := O4
        have aR : (Value.slice la GR.length lc).ownBlock ≠ some w.heap.size := Pk.own_ne' O4 m4 (by decide)
        have aT : (Value.slice la GR.length lc).ownBlock ≠ some T := Pk.own_ne' O4 mT4 (by decide)
        have hRT : ¬ w.heap.size = T := fun h => hTR h.symm
        have hTR2 : ¬ T = w.heap.size := hTR
        go_wp2
        refine bodyPost_ret (v := wnV ⟨(n0 : Int), (n1 : Int), (n2 : Int), (n3 : Int), (n4 : Int)⟩ GN la GR.length lc) (by simp [results, Tryd.results26, go_sem, hTR2, hRT, a0, a1, a2, a3, a4, a5, a6]) rfl ?_
        refine ⟨⟨la, lc, by rw [HGH.out], ?_⟩, ?_⟩
        · exact own_offv (own_offv (own_offv (own_offv (own_offv (own_offv (own_offv (own_offv OE.out aT _) aR _) aR _) aR _) aR _) aR _) aR _) aR _
        · (repeat' (first | apply Below.setCell | exact K4.out)) <;> first | (simp; done) | (simp; omega)

end Wn
end Go.Proofs.YtdfejmaekdgcdasDoor
