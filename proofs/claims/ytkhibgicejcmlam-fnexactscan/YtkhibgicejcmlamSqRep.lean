/- bytes.Repeat of one byte. -/
import Derived.Test.YtkhibgicejcmlamSqPaintS
import Derived.Lib.MakeNoZero
import Derived.Lib.SlBuf
import Derived.Laws.CopyOwn
import Derived.Laws.Bits64b
import Derived.Laws.Small
import Derived.Deep.RegionLaw
import Derived.Laws.CopyRow
namespace Go.Proofs.Ytkhibgicejcmlam
namespace Sq
open Go.ChangeShapes Go.WideShapes Go.ChangeAt Go.RowKit
set_option linter.unusedSimpArgs false
set_option linter.unusedVariables false

theorem mask_n (n : Nat) (hn : n ≤ 4000) : bits .and .u64 (n : Int) 4294967295 = (n : Int) := by
  have h := bits_and_u64_nat n 4294967295 (by omega) (by omega)
  have e : n &&& 4294967295 = n % 4294967296 := Nat.and_two_pow_sub_one_eq_mod n 32
  rw [e, Nat.mod_eq_of_lt (by omega)] at h
  exact h

set_option maxHeartbeats 2000000 in
theorem mul64_one (n : Nat) (w : World) (hn : n ≤ 4000) :
    Calls Try.prog 76 #[.int .u64 1, .int .u64 n] w fun e w' => e = .returned (.tuple #[.int .u64 0, .int .u64 n]) ∧ w' = w := by
  have m1 : bits .and .u64 1 4294967295 = 1 := by decide
  have m0 : bits .and .u64 0 4294967295 = 0 := by decide
  have m2 := mask_n n hn
  have d1 : (n : Int) / 4294967296 = 0 := by omega
  have q1 : IntKind.u64.wrap (n : Int) = n := by rw [IntKind.wrap_u64]; omega
  go_enter Try.func76, Try.ntmps76
  go_wp2
  go_ret2
  exact ⟨rfl, rfl⟩

theorem mul_one (n : Nat) (w : World) (hn : n ≤ 4000) :
    Calls Try.prog 66 #[.int .u64 1, .int .u64 n] w fun e w' => e = .returned (.tuple #[.int .u64 0, .int .u64 n]) ∧ w' = w := by
  go_enter Try.func66, Try.ntmps66
  go_wp2_with fail
  refine (mul64_one n w hn).mono ?_
  rintro e w' ⟨rfl, rfl⟩
  go_wp2
  go_ret2
  exact ⟨rfl, rfl⟩

theorem splice_at (l : List Value) (b m : Nat) (v : Value) (hb : b + m ≤ l.length) (h : ∀ j, j < b → l[j]? = some v) (j : Nat) (hj : j < b + m) : (splice l b (List.replicate m v))[j]? = some v := by
  unfold splice
  by_cases e : j < b
  · rw [List.getElem?_append_left (by rw [List.length_take]; omega), List.getElem?_take, if_pos e]
    exact h j e
  · rw [List.getElem?_append_right (by rw [List.length_take]; omega), List.length_take, Nat.min_eq_left (by omega), List.getElem?_append_left (by rw [List.length_replicate]; omega), List.getElem?_replicate, if_pos (by omega)]

theorem copy_run (W w0 : World) (ty : TypeId) (g off dLen dCap sLen sCap B : Nat) (ad : Addr) (cur cs : List Value) (hg : W.heap[g]? = some (.cells cur.toArray 5 (0, 0))) (hn : cs.length = Nat.min sLen dLen) (hsrc : ∀ j v, cs[j]? = some v → W.cell? (ad.add j) = some v) (hfit : off + cs.length ≤ cur.length) (h1 : ∀ v ∈ cs, v.oneCell' = true) (hb : Below B w0 W) (hBg : B ≤ g) :
    ∃ w', (Builtin.copy_ #[50, 50] ty #[.slice (some ⟨g, off, none⟩) dLen dCap, .slice (some ad) sLen sCap]).run Try.prog W = .ok (.int .i64 (cs.length : Int)) w' ∧ Hid (w'.heap[g]? = some (.cells (splice cur off cs).toArray 5 (0, 0))) ∧ Hid (Below B w0 w') := by
  have hsz1 : (Try.prog.info? 5).map (·.size) = some 1 := by kernel_rfl
  have hrun := run_copy_row (P := Try.prog) W 50 50 ty 5 g off dLen dCap ad sLen sCap cur.toArray 5 cs Try.underlying50 hsz1 hg hn hsrc (by simpa using hfit) h1
  exact ⟨_, hrun, (show _ = _ by simpa [splice] using setRow_heap W g _ _ 5 _ hg), below_setRow hb hBg _⟩

set_option maxRecDepth 100000 in
set_option maxHeartbeats 4000000 in
theorem repeat_val (n g0 : Nat) (w : World) (h0 : w.cell? ⟨g0, 0, none⟩ = some (.int .u8 48)) (hg0 : g0 < w.heap.size) (hn1 : 1 ≤ n) (hn : n ≤ 4000) :
    Calls Try.prog 44 #[.slice (some ⟨g0, 0, none⟩) 1 1, .int .i64 n] w fun e w' => e = .returned (.slice (some ⟨w.heap.size, 0, none⟩) n n) ∧ Below w.heap.size w w' ∧ w.heap.size < w'.heap.size ∧ Cl w' w.heap.size n (fun _ => .int .u8 48) := by
  obtain ⟨i0, hi, hz0, hz1, hz2⟩ := Pk.info_of info_u8
  have hsz1 : (Try.prog.info? 5).map (·.size) = some 1 := by kernel_rfl
  have hszw : ∀ w, (Go.sizeOf 5).run Try.prog w = .ok 1 w := fun w => by simp [Go.sizeOf, typeInfo, hi, hz1]
  obtain ⟨cs, hrunM, hle, -⟩ := Lib.run_makeNoZero (P := Try.prog) w #[3] 50 5 Try.underlying50 n (by omega)
  have hcall : (callFunc 67 #[.int .i64 (n : Int)]).run Try.prog w = .ok (.value (.slice (some ⟨w.heap.size, 0, none⟩) n cs.size)) (w.drew.drew.alloc (.cells cs 5)) := by
    rw [run_callFunc_extern Try.func67 (by kernel_rfl) (by kernel_rfl) (by kernel_rfl) (e := Extern.BytealgMakeNoZero.makeNoZero #[3] #[50]) (by kernel_rfl), hrunM]
    rfl
  clear hrunM
  have i1 : (n : Int) ≤ (cs.size : Int) := by omega
  have hg1 : ((w.alloc (.cells cs 5)).drew.drew).heap[w.heap.size]? = some (.cells cs.toList.toArray 5 (0, 0)) := by
    rw [Array.toArray_toList]
    exact Pk.heap_new w (.cells cs 5)
  have hb1 : Below w.heap.size w ((w.alloc (.cells cs 5)).drew.drew) := (((Below.refl _ _).alloc (Nat.le_refl _) _).drew).drew
  have hc1 : ((w.alloc (.cells cs 5)).drew.drew).cell? ⟨g0, 0, none⟩ = some (.int .u8 48) := (hb1.cell hg0).trans h0
  have q1 : IntKind.u64.wrap (n : Int) = n := by rw [IntKind.wrap_u64]; omega
  have q2 : IntKind.i64.wrap (n : Int) = n := by rw [IntKind.wrap_i64]; omega
  go_enter Try.func44, Try.ntmps44
  go_wp2_with fail
  refine (mul_one n w hn).mono ?_
  rintro e w1 ⟨rfl, hw1⟩
  have hw2 := hw1.symm
  subst hw2
  have F1 : Hid (([Value.int .u8 48] : List Value).length = Nat.min 1 n) := by show 1 = min 1 n; omega
  have F2 : Hid (∀ j v, ([Value.int .u8 48] : List Value)[j]? = some v → ((w.alloc (.cells cs 5)).drew.drew).cell? ((⟨g0, 0, none⟩ : Addr).add j) = some v) := by
    intro j v hv
    match j with
    | 0 =>
      simp at hv
      subst hv
      simpa [Addr.add] using hc1
    | j + 1 => simp at hv
  have F3 : Hid (0 + ([Value.int .u8 48] : List Value).length ≤ cs.toList.length) := by show _ ≤ _; simp; omega
  have F4 : Hid (∀ v ∈ ([Value.int .u8 48] : List Value), v.oneCell' = true) := by intro v hv; simp at hv; subst hv; rfl
  obtain ⟨w2, hcp, hg2, hb2⟩ := copy_run _ w 3 w.heap.size 0 n n 1 1 w.heap.size ⟨g0, 0, none⟩ cs.toList [Value.int .u8 48] hg1 F1.out F2.out F3.out F4.out hb1 (Nat.le_refl _)
  rw [show (([Value.int .u8 48] : List Value).length : Int) = 1 from rfl] at hcp
  clear F1 F2 F3 F4
  have hl2 : Hid ((splice cs.toList 0 [Value.int .u8 48]).length = cs.size) := by
    show _ = _
    rw [length_splice _ _ _ (by simp; omega)]
    simp
  have ha2 : Hid (∀ j, j < 1 → (splice cs.toList 0 [Value.int .u8 48])[j]? = some (.int .u8 48)) := fun j hj => by
    have := splice_at cs.toList 0 1 (.int .u8 48) (by simp; omega) (fun j hj => by omega) j (by omega)
    simpa using this
  generalize splice cs.toList 0 [Value.int .u8 48] = c2 at *
  have hdr : (w.alloc (.cells cs 5)).drew.drew = w.drew.drew.alloc (.cells cs 5) := rfl
  clear hg1 hb1 hc1 hdr
  go_wp2
  go_loopw [10, 11] (fun b10 _ wr => ∃ (bp : Nat) (cur : List Value), 1 ≤ bp ∧ bp ≤ n ∧ b10 = .int .i64 bp ∧ Hid (wr.heap[w.heap.size]? = some (.cells cur.toArray 5 (0, 0))) ∧ Hid (cur.length = cs.size) ∧ Hid (∀ j, j < bp → cur[j]? = some (.int .u8 48)) ∧ Hid (Below w.heap.size w wr)) (fun b _ _ => n - (intOf b).toNat)
  case atStart => exact ⟨1, c2, by omega, hn1, rfl, hg2, hl2, ha2, hb2⟩
  case round =>
    clear hg2 hl2 ha2 hb2
    obtain ⟨bp, cur, hb1, hbn, rfl, HG, HL, HA, HB⟩ := hrel
    by_cases hlt : bp < n
    · obtain ⟨m, hm⟩ : ∃ m, Nat.min bp (n - bp) = m := ⟨_, rfl⟩
      have hm' : min bp (n - bp) = m := hm
      have hm1 : 1 ≤ m := by omega
      have hm2 : bp + m ≤ n := by omega
      have hmn : ¬ ((n : Int) < (bp : Int)) := by omega
      have hln := HL.out
      have hmin : min (bp : Int) (n : Int) = bp := by omega
      have hsl1 : ∀ W, (Instr.slice 50 (.slice (some ⟨w.heap.size, 0, none⟩) n n) (some (.int .i64 (bp : Int))) none none).run Try.prog W = .ok (.slice (some ⟨w.heap.size, bp, none⟩) (n - bp) (n - bp)) W := fun W => by
        have := Lib.run_slice_tailV (P := Try.prog) W 50 5 Try.underlying50 hszw w.heap.size n bp hbn
        unfold Lib.tailV at this
        rw [if_neg (by omega)] at this
        exact this
      have hgd : wr.drew.heap[w.heap.size]? = some (.cells cur.toArray 5 (0, 0)) := HG.out
      have hbd : Below w.heap.size w wr.drew := HB.out.drew
      have e1 : (List.replicate m (Value.int .u8 48)).length = Nat.min bp (n - bp) := by rw [List.length_replicate]; exact hm.symm
      have e2 : bp + (List.replicate m (Value.int .u8 48)).length ≤ cur.length := by rw [List.length_replicate]; omega
      have e3 : ∀ v ∈ List.replicate m (Value.int .u8 48), v.oneCell' = true := fun v hv => by rw [(List.mem_replicate.1 hv).2]; rfl
      have e4 : ∀ j v, (List.replicate m (Value.int .u8 48))[j]? = some v → wr.drew.cell? ((⟨w.heap.size, 0, none⟩ : Addr).add j) = some v := fun j v hv => by
        rw [List.getElem?_replicate] at hv
        split at hv
        · rename_i hj
          cases hv
          rw [show Addr.add ⟨w.heap.size, 0, none⟩ j = ⟨w.heap.size, j, none⟩ from by simp [Addr.add]; exact Eq.symm, Pk.cell_at hgd j]
          simpa using HA.out j (by omega)
        · cases hv
      obtain ⟨w4, hcp, hg4, hb4⟩ := copy_run wr.drew w 3 w.heap.size bp (n - bp) (n - bp) bp n w.heap.size ⟨w.heap.size, 0, none⟩ cur (List.replicate m (Value.int .u8 48)) hgd e1 e4 e2 e3 hbd (Nat.le_refl _)
      rw [List.length_replicate] at hcp
      clear e1 e2 e3 e4 hgd hbd
      go_wp2
      go_region
      all_goals
        go_wp2
        go_roundw
        case rel =>
          refine ⟨bp + m, splice cur bp (List.replicate m (Value.int .u8 48)), by omega, hm2, by go_num, hg4, ?_, ?_, hb4⟩
          · show _ = _
            rw [length_splice _ _ _ (by rw [List.length_replicate]; omega)]
            exact HL.out
          · exact fun j hj => splice_at cur bp m _ (by omega) HA.out j hj
        case measure => simp [intOf]; omega
    · obtain rfl : bp = n := by omega
      have CLX : Hid (Cl wr w.heap.size bp (fun _ => .int .u8 48)) := fun j hj => ⟨by rw [Pk.cell_at HG.out j]; simpa using HA.out j hj, Pk.frozen_at HG.out j⟩
      have HLT : Hid (w.heap.size < wr.heap.size) := Pk.lt_of HG.out
      go_wp2
      go_ret
      exact ⟨rfl, HB.out, HLT.out, CLX.out⟩

end Sq
end Go.Proofs.Ytkhibgicejcmlam
