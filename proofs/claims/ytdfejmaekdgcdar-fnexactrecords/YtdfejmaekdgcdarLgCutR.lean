/- The records that a log begins with: the program's Records. -/
import Derived.Test.YtdfejmaekdgcdarLgCut
namespace Go.Proofs.Ytdfejmaekdgcdar
namespace Lg10
open Go.ChangeShapes Go.WideShapes Go.ChangeAt Go.RowKit
open Pk (own_at own_ge own_below own_ne info_of new_below join_below kept)
open Gt (tcells tcells_snoc cell_one info_str own_new Txts)
set_option linter.unusedSimpArgs false
set_option linter.unusedVariables false

theorem Part.heap {w w1 : World} {g o k : Nat} {l : ByteArray} (P : Part w g o k l) (h : w1.heap[g]? = w.heap[g]?) : Part w1 g o k l := by
  intro j hj
  rw [← P j hj]
  unfold World.cell?
  rw [h]

/-- The bytes of a text in new memory. -/
theorem to_bytes' (w : World) (s : ByteArray) : ∃ (g cap : Nat) (w1 : World), (convert 9 119 (.string s)).run Try.prog w = .ok (.slice (some ⟨g, 0, none⟩) s.size cap) w1 ∧ s.size ≤ cap ∧ w.heap.size ≤ g ∧ g < w1.heap.size ∧ Below w.heap.size w w1 ∧ (∃ C f, w1.heap[g]? = some (.cells C 5 f)) ∧
    ∀ j (hj : j < s.size), w1.cell? ⟨g, j, none⟩ = some (.int .u8 (s[j].toNat : Int)) := by
  refine ⟨_, _, _, run_bytes_of_string w 9 119 5 s Try.underlying9 Try.underlying119 Try.underlying5, grownCap_ge _ _ _ _, Nat.le_refl _, by simp, ((Below.refl _ _).drew).alloc (Nat.le_refl _) _, ⟨_, _, (MapKept.heap_alloc w.drew _).1⟩, ?_⟩
  intro j hj
  generalize grownCap w s.size 0 5 = cp
  have hd : w.drew.heap.size = w.heap.size := rfl
  rw [← hd, World.cell?_alloc_mark, bytesRow_at s _ j hj]
  rfl

/-- A slice's length. -/
def sliceLen : Value → Nat
  | .slice _ n _ => n
  | _ => 0

set_option maxRecDepth 100000 in
set_option maxHeartbeats 4000000 in
theorem implRecords_val (l : ByteArray) (w : World) (hl : l.size ≤ maxLen) :
    Calls Try.prog 25 #[.string l] w fun e w' => (∃ v, e = .returned (.tuple #[v, .int .i64 (rsE l : Nat)]) ∧ w'.ownsRow w.heap.size 9 1 v (rsL l).length (tcells (rsL l))) ∧ Below w.heap.size w w' := by
  obtain ⟨i0, hi, hz0, hz1, hz2⟩ := info_of info_str
  unfold maxLen at hl
  by_cases h2 : l.size ≤ 200000
  · have HL : Hid (rsL l = rcs l l.size 0) := if_pos h2
    have HE : Hid (rsE l = rce l l.size 0) := if_pos h2
    generalize rsL l = RL at *
    generalize rsE l = RE at *
    have h2I : ¬ (200000 : Int) < (l.size : Int) := by omega
    obtain ⟨g, cp, w1, hrun, hcp, hg0, hg1, L1, ⟨C, fz, hC⟩, hcl⟩ := to_bytes' w l
    have P0 : Part w1 g 0 0 l := fun j h => by
      have := hcl j (by omega)
      simpa using this
    have O0 : w1.ownsRow w.heap.size 9 1 (.slice none 0 0) 0 [] := ⟨rfl, Or.inl ⟨rfl, rfl⟩⟩
    clear hcl
    go_enter Try.func25, Try.ntmps25
    go_wp2
    go_loopw [4, 5] (fun v r wr => ∃ (k n q o c : Nat) (done : List ByteArray), r = .slice (some ⟨g, o, none⟩) q c ∧ k + q = l.size ∧ q ≤ c ∧ l.size ≤ n + k ∧ done.length ≤ k ∧ Hid (RL = done ++ rcs l n k) ∧ Hid (RE = rce l n k) ∧ Hid (Part w1 g o k l) ∧ wr.ownsRow w.heap.size 9 1 v done.length (tcells done) ∧ Hid (wr.heap[g]? = w1.heap[g]?) ∧ Hid (Below w.heap.size w wr)) (fun _ r _ => sliceLen r)
    case atStart => exact ⟨0, l.size, l.size, 0, cp, [], rfl, by omega, hcp, by omega, by simp, HL, HE, P0, O0, rfl, L1⟩
    case round =>
      clear HL HE hcp L1 O0 P0 hrun
      obtain ⟨k, n, q, o, c, done, rfl, hk, hqc, hn, hd, HL, HE, P1, O, HG, L⟩ := hrel
      have hC2 := HG.out.trans hC
      have hgr : g < wr.heap.size := Pk.lt_of hC2
      have HCV : Hid (∀ _ : Unit, _) := fun _ => cutRecord_val l k q g o c wr h2 hk hqc hgr (P1.out.heap HG.out)
      go_wp2_with fail
      refine (HCV.out ()).mono ?_
      rintro e w2 ⟨⟨t, rv, rfl, hyes⟩, L2⟩
      have O2 := own_below O L2 (Nat.le_refl _)
      have K2 := join_below L.out L2
      have hC3 := kept L2 hgr hC2
      have hBr : w.heap.size ≤ w2.heap.size := K2.size
      clear HCV O L
      by_cases hr : recB l k = true
      · obtain ⟨rfl, o2, q2, hq2, rfl, P2⟩ := hyes hr
        obtain ⟨n', rfl⟩ : ∃ n', n = n' + 1 := by
          unfold recB at hr
          simp only [Bool.and_eq_true, decide_eq_true_eq] at hr
          exact ⟨n - 1, by omega⟩
        have HST : Hid (rcs l (n' + 1) k = txS l k :: rcs l n' (k + 8 + txN l k)) := by show rcs l (n' + 1) k = _; rw [rcs, if_pos hr]
        have HSE : Hid (rce l (n' + 1) k = rce l n' (k + 8 + txN l k)) := by show rce l (n' + 1) k = _; rw [rce, if_pos hr]
        rw [HST.out] at HL
        rw [HSE.out] at HE
        rw [hr]
        have P3 : Hid (Part w1 g o2 (k + 8 + txN l k) l) := P2.heap (hC.trans hC3.symm)
        clear HST HSE hyes P1 P2 hC2
        generalize txS l k = tx at *
        generalize txN l k = m at *
        go_wp2_with (at_builtin; refine wpList_append_own _ rfl _ _ 54 rfl w.heap.size 9 i0 (.string ⟨#[]⟩) 1 16 Try.underlying54 hi hz0 hz1 hz2 rfl (by decide) _ _ _ rfl (O2.alloc _) ⟨w2.heap.size, 0, none⟩ 1 1 [.string tx] rfl rfl ?c1 ?c2 ?c3 ?c4 ?c5 ?_)
        case c1 => exact cell_one _ _ _
        case c2 => intro u hu; simp at hu; subst hu; rfl
        case c3 => unfold maxLen; omega
        case c4 => omega
        case c5 => simp; omega
        intro v' w5 own5 grow5 _
        have L5 : Below w.heap.size w w5 := (K2.alloc hBr _).grown grow5 (by simp; omega) (fun m h => own_ge O2 m h)
        rw [tcells_snoc, show done.length + 1 = (done ++ [tx]).length from by simp] at own5
        have HL2 : Hid (RL = (done ++ [tx]) ++ rcs l n' (k + 8 + m)) := by
          show _ = _
          rw [HL.out, List.append_assoc]
          rfl
        have hC4 : (w2.alloc (.cells #[.string tx] 9)).heap[g]? = some (.cells C 5 fz) := Pk.heap_old hC3 _
        have hne := own_ne (O2.alloc (.cells #[.string tx] 9)) hC4 (by decide)
        have hC5 : Hid (w5.heap[g]? = w1.heap[g]?) := by
          show _ = _
          rw [grow5.block g (Pk.lt_of hC4) hne, hC4, hC]
        clear grow5 hC4 hne
        go_wp2
        go_roundw
        case rel => exact ⟨k + 8 + m, n', q2, o2, q2, done ++ [tx], rfl, by omega, Nat.le_refl _, by omega, by simp; omega, HL2, HE, P3, own5, hC5, L5⟩
        case measure => simp [sliceLen]; omega
      · have hno : recB l k = false := by simpa using hr
        rw [hno]
        obtain ⟨e1, e2⟩ := rcs_no (n := n) hno
        rw [e1, List.append_nil] at HL
        rw [e2] at HE
        obtain rfl : RL = done := HL
        obtain rfl : RE = k := HE
        have hkI : (l.size : Int) - (q : Int) = (RE : Int) := by omega
        go_wp2
        go_ret2
        exact ⟨⟨_, rfl, O2⟩, K2⟩
  · have HL : Hid (rsL l = []) := if_neg h2
    have HE : Hid (rsE l = 0) := if_neg h2
    rw [HL.out, HE.out]
    have h2I : (200000 : Int) < (l.size : Int) := by omega
    go_enter Try.func25, Try.ntmps25
    go_wp2
    go_ret2
    exact ⟨⟨_, rfl, ⟨rfl, Or.inl ⟨rfl, rfl⟩⟩⟩, Below.refl _ _⟩

theorem rcs_length (l : ByteArray) : ∀ n k, (rcs l n k).length ≤ n
  | 0, _ => Nat.le_refl _
  | n + 1, k => by
    rw [rcs]
    split
    · have := rcs_length l n (k + 8 + txN l k)
      rw [List.length_cons]
      omega
    · simp

theorem rsL_length (l : ByteArray) : (rsL l).length ≤ 1048576 := by
  unfold rsL
  split
  · have := rcs_length l l.size 0
    omega
  · simp

end Lg10
end Go.Proofs.Ytdfejmaekdgcdar
