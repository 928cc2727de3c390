/- What OfficeText answers; the contract of the program's. -/
import Derived.Test.YtbmcnkfhiiicjaaDoorOtBuild
import Derived.Test.YtbmcnkfhiiicjaaDoorOfOff
import Derived.Test.YtbmcnkfhiiicjaaDoorTkLine
import Derived.Deep.RegionHeld3
import Derived.Deep.Cut
namespace Go.Proofs.YtbmcnkfhiiicjaaDoor
namespace Ot
open Go.ChangeShapes Go.WideShapes Go.ChangeAt Go.RowKit Go.Joins
open Pk (new_below join_below cell_at heap_new frozen_at lt_of kept heap_old)
open Tk (ws Wide RowZ ba_assoc ba_size)
open Num (decS Tens)
open Of (Offc Pl In ofV ofB)
set_option linter.unusedSimpArgs false
set_option linter.unusedVariables false

/-- A text, and behind it what the first k of a list tell. -/
def cat {α : Type} (b : ByteArray) (f : α → ByteArray) (l : List α) (k : Nat) : ByteArray := (l.take k).foldl (fun a x => a ++ f x) b

theorem cat_step {α : Type} (b : ByteArray) (f : α → ByteArray) (l : List α) (k : Nat) (h : k < l.length) : cat b f l (k + 1) = cat b f l k ++ f l[k] := by
  unfold cat
  rw [List.take_add_one, List.getElem?_eq_getElem h, List.foldl_append]
  rfl

theorem cat_size {α : Type} (b : ByteArray) (f : α → ByteArray) (l : List α) (c : Nat) (hc : ∀ x ∈ l, (f x).size ≤ c) (k : Nat) (hk : k ≤ l.length) : (cat b f l k).size ≤ b.size + k * c := by
  induction k with
  | zero => simp [cat]
  | succ k ih =>
    have h1 := ih (by omega)
    have h2 := hc l[k] (List.getElem_mem (by omega))
    rw [cat_step b f l k (by omega), ba_size, Nat.add_mul, Nat.one_mul]
    omega

/-- The numbers of an order, of a hold, of a reply. -/
def numO (x : Od.Hd) : List Int := [x.id, x.st, x.cl, x.ca, x.pr, x.pa, x.fi]
def numH (h : Se.Hl) : List Int := [h.tr, h.dy, h.co, h.se, h.ba, h.be, h.od]
def numR (r : Rp.Rr) : List Int := [r.rq, r.sa, r.od, r.am]

/-- Their lines. -/
def linT (td : Int) : ByteArray := ⟨#[116, 111, 100, 97, 121]⟩ ++ ws [td] ++ ⟨#[10]⟩
def linO (x : Od.Oo) : ByteArray := ⟨#[111, 114, 100, 101, 114]⟩ ++ ws (numO x.h) ++ ⟨#[32]⟩ ++ x.h.nm ++ ⟨#[10]⟩
def linH (h : Se.Hl) : ByteArray := ⟨#[104, 111, 108, 100]⟩ ++ ws (numH h) ++ ⟨#[10]⟩
def linR (r : Rp.Rr) : ByteArray := ⟨#[116, 111, 108, 100]⟩ ++ ws (numR r) ++ ⟨#[10]⟩

/-- The text as far as some orders, some holds, some replies. -/
def otO (o : Offc) (k : Nat) : ByteArray := cat (linT o.td) linO o.od k
def otH (o : Offc) (k : Nat) : ByteArray := cat (otO o o.od.length) linH o.ho k
def otR (o : Offc) (k : Nat) : ByteArray := cat (otH o o.ho.length) linR o.to k

/-- What OfficeText answers. -/
def otS (o : Offc) : ByteArray := otR o o.to.length

/-- Its numbers are such as an int holds; its lists and names are no longer than a law takes. -/
structure Fit (o : Offc) : Prop where
  td : Wide [o.td]
  od : ∀ x ∈ o.od, Wide (numO x.h) ∧ x.h.nm.size ≤ 1048576
  ho : ∀ x ∈ o.ho, Wide (numH x)
  to : ∀ x ∈ o.to, Wide (numR x)
  lo : o.od.length ≤ 1048576
  lh : o.ho.length ≤ 1048576
  lr : o.to.length ≤ 1048576

theorem linT_size (td : Int) (h : Wide [td]) : (linT td).size ≤ 100 := by
  have h1 := Tk.ws_wide_all [td] h
  have e1 : (⟨#[116, 111, 100, 97, 121]⟩ : ByteArray).size = 5 := rfl
  have e2 : (⟨#[10]⟩ : ByteArray).size = 1 := rfl
  simp only [List.length_cons, List.length_nil] at h1
  unfold linT
  rw [ba_size, ba_size, e1, e2]
  omega

theorem linO_size (x : Od.Oo) (h : Wide (numO x.h)) (hn : x.h.nm.size ≤ 1048576) : (linO x).size ≤ 1100000 := by
  have h1 := Tk.ws_wide_all (numO x.h) h
  have e0 : (numO x.h).length = 7 := rfl
  have e1 : (⟨#[111, 114, 100, 101, 114]⟩ : ByteArray).size = 5 := rfl
  have e2 : (⟨#[10]⟩ : ByteArray).size = 1 := rfl
  have e3 : (⟨#[32]⟩ : ByteArray).size = 1 := rfl
  unfold linO
  rw [ba_size, ba_size, ba_size, ba_size, e1, e2, e3]
  omega

theorem linH_size (x : Se.Hl) (h : Wide (numH x)) : (linH x).size ≤ 1000 := by
  have h1 := Tk.ws_wide_all (numH x) h
  have e0 : (numH x).length = 7 := rfl
  have e1 : (⟨#[104, 111, 108, 100]⟩ : ByteArray).size = 4 := rfl
  have e2 : (⟨#[10]⟩ : ByteArray).size = 1 := rfl
  unfold linH
  rw [ba_size, ba_size, e1, e2]
  omega

theorem linR_size (x : Rp.Rr) (h : Wide (numR x)) : (linR x).size ≤ 1000 := by
  have h1 := Tk.ws_wide_all (numR x) h
  have e0 : (numR x).length = 4 := rfl
  have e1 : (⟨#[116, 111, 108, 100]⟩ : ByteArray).size = 4 := rfl
  have e2 : (⟨#[10]⟩ : ByteArray).size = 1 := rfl
  unfold linR
  rw [ba_size, ba_size, e1, e2]
  omega

theorem otO_size (o : Offc) (h : Fit o) (k : Nat) (hk : k ≤ o.od.length) : (otO o k).size ≤ 2000000000000 := by
  have h1 := cat_size (linT o.td) linO o.od 1100000 (fun x hx => linO_size x (h.od x hx).1 (h.od x hx).2) k hk
  have h2 := linT_size o.td h.td
  have h3 := h.lo
  have h4 : k * 1100000 ≤ 1048576 * 1100000 := Nat.mul_le_mul_right _ (by omega)
  unfold otO
  omega

theorem otH_size (o : Offc) (h : Fit o) (k : Nat) (hk : k ≤ o.ho.length) : (otH o k).size ≤ 4000000000000 := by
  have h1 := cat_size (otO o o.od.length) linH o.ho 1000 (fun x hx => linH_size x (h.ho x hx)) k hk
  have h2 := otO_size o h o.od.length (Nat.le_refl _)
  have h3 := h.lh
  have h4 : k * 1000 ≤ 1048576 * 1000 := Nat.mul_le_mul_right _ (by omega)
  unfold otH
  omega

theorem otR_size (o : Offc) (h : Fit o) (k : Nat) (hk : k ≤ o.to.length) : (otR o k).size ≤ 6000000000000 := by
  have h1 := cat_size (otH o o.ho.length) linR o.to 1000 (fun x hx => linR_size x (h.to x hx)) k hk
  have h2 := otH_size o h o.ho.length (Nat.le_refl _)
  have h3 := h.lr
  have h4 : k * 1000 ≤ 1048576 * 1000 := Nat.mul_le_mul_right _ (by omega)
  unfold otR
  omega

theorem otO_0 (o : Offc) : otO o 0 = linT o.td := rfl
theorem otH_0 (o : Offc) : otH o 0 = otO o o.od.length := rfl
theorem otR_0 (o : Offc) : otR o 0 = otH o o.ho.length := rfl

end Ot
end Go.Proofs.YtbmcnkfhiiicjaaDoor
