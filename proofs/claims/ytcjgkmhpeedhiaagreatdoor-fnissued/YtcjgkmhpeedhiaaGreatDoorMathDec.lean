/- Plain facts on decimal texts: the digits of a number, and the number of digits. -/
import Derived.Lib.ItoaNum
namespace Go.Proofs.YtcjgkmhpeedhiaaGreatDoor
namespace Math

theorem nd_le (k:Nat):∀u,u<10^(k+1)→Lib.nDigits u≤k+1:=by
 induction k with
 |zero=>intro u h;rw[Lib.nDigits_small (by omega)];omega
 |succ k ih=>
  intro u h
  by_cases hs:u<10
  ·rw[Lib.nDigits_small hs];omega
  ·rw[Lib.nDigits_big hs]
   have:=ih (u/10) (by rw[Nat.pow_succ]at h;omega)
   omega

theorem dec_len (u:Nat):(Lib.decDigits u).length=Lib.nDigits u:=by
 rw[Lib.decDigits_eq]
 simp

theorem dec_len_le (u:Nat) (h:u≤9223372036854775808):(Lib.decDigits u).length≤20:=by
 rw[dec_len]
 exact nd_le 19 u (by omega)

theorem dec_small (u:Nat) (h:u<10):Lib.decDigits u= [UInt8.ofNat (48+u)]:=by
 rw[Lib.decDigits,dif_pos h]

theorem dec_big (u:Nat) (h:¬u<10):Lib.decDigits u=Lib.decDigits (u/10)++ [UInt8.ofNat (48+u%10)]:=by
 rw[Lib.decDigits,dif_neg h]

def Left (n u:Nat) (l:List UInt8):Prop:=(u=0∧l=Lib.decDigits n)∨(0<u∧Lib.decDigits u++l=Lib.decDigits n)

theorem Left.start (n:Nat) (h:0<n):Left n n []:=Or.inr ⟨h,List.append_nil _⟩

theorem Left.step {n u:Nat} {l:List UInt8} (h:Left n u l) (hu:0<u):Left n (u/10) (UInt8.ofNat (48+u%10)::l):=by
 rcases h with h|⟨_,h⟩
 ·omega
 ·by_cases hs:u<10
  ·refine Or.inl ⟨by omega,?_⟩
   rw[dec_small u hs]at h
   rw[←h,Nat.mod_eq_of_lt hs]
   rfl
  ·refine Or.inr ⟨by omega,?_⟩
   rw[dec_big u hs,List.append_assoc]at h
   exact h

theorem Left.done {n:Nat} {l:List UInt8} (h:Left n 0 l):l=Lib.decDigits n:=by
 rcases h with⟨_,h⟩|⟨h,_⟩
 ·exact h
 ·omega

theorem Left.len {n u:Nat} {l:List UInt8} (h:Left n u l) (hn:n≤9223372036854775808):l.length≤20:=by
 have h1:=dec_len_le n hn
 rcases h with⟨_,h⟩|⟨_,h⟩
 ·rw[h];exact h1
 ·rw[←h,List.length_append]at h1;omega

theorem cut_digit (d:Nat) (h:d<10):(ByteArray.mk #[48,49,50,51,52,53,54,55,56,57]).extract d (d+1)=⟨#[UInt8.ofNat (48+d)]⟩:=by
 have:d=0∨d=1∨d=2∨d=3∨d=4∨d=5∨d=6∨d=7∨d=8∨d=9:=by omega
 rcases this with h|h|h|h|h|h|h|h|h|h<;>subst h<;>rfl

theorem put_digit (d:Nat) (h:d<10) (l:List UInt8):(ByteArray.mk #[48,49,50,51,52,53,54,55,56,57]).extract d (d+1)++(ByteArray.mk l.toArray)=⟨(UInt8.ofNat (48+d)::l).toArray⟩:=by
 rw[cut_digit d h]
 apply ByteArray.ext
 simp

def AllD (l:List UInt8):Prop:=∀b,b∈l→48≤b.toNat∧b.toNat≤57

def val (l:List UInt8):Nat:=l.foldl (fun x b=>10*x+(b.toNat-48)) 0

def ReadOk (l:List UInt8):Prop:=AllD l∧1≤l.length∧l.length≤9∧(l.length=1∨l.head? ≠some 48)

theorem val_snoc (l:List UInt8) (b:UInt8):val (l++ [b])=10*val l+(b.toNat-48):=by
 unfold val
 rw[List.foldl_append]
 rfl

theorem AllD.snoc {l:List UInt8} {b:UInt8} (h:AllD l) (hb:48≤b.toNat∧b.toNat≤57):AllD (l++ [b]):=by
 intro c hc
 rcases List.mem_append.1 hc with hc|hc
 ·exact h c hc
 ·rw[List.mem_singleton.1 hc];exact hb

theorem AllD.init {l:List UInt8} {b:UInt8} (h:AllD (l++ [b])):AllD l∧(48≤b.toNat∧b.toNat≤57):=
 ⟨fun c hc=>h c (List.mem_append_left _ hc),h b (by simp)⟩

theorem snoc_ind (P:List UInt8→Prop) (h0:P []) (hs:∀l b,P l→P (l++ [b])) (l:List UInt8):P l:=by
 rw[←List.reverse_reverse l]
 induction l.reverse with
 |nil=>exact h0
 |cons b l ih=>rw[List.reverse_cons];exact hs _ _ ih

theorem val_lt (l:List UInt8) (h:AllD l):val l<10^l.length:=by
 induction l using snoc_ind with
 |h0=>show 0<1;omega
 |hs l b ih=>
  have h1:=ih h.init.1
  have h2:=h.init.2
  rw[val_snoc,List.length_append]
  show _<10^(l.length+1)
  rw[Nat.pow_succ]
  omega

theorem val_bd (l:List UInt8) (h:AllD l) (hl:l.length≤9):val l≤999999999:=by
 have h1:=val_lt l h
 have h2:10^l.length≤10^9:=Nat.pow_le_pow_right (by omega) hl
 have h3:(10:Nat)^9=1000000000:=rfl
 omega

theorem dec_ne (u:Nat):Lib.decDigits u≠ []:=by
 have h:=dec_len u
 have h2:=Lib.nDigits_pos u
 intro h3
 rw[h3]at h
 simp at h
 omega

theorem digit_eq (b:UInt8) (h:48≤b.toNat∧b.toNat≤57):UInt8.ofNat (48+(b.toNat-48))=b:=by
 rw[show 48+(b.toNat-48)=b.toNat from by omega]
 exact UInt8.ofNat_toNat

theorem val_pos (l:List UInt8) (h:AllD l) (hn:l≠ []) (hh:l.head? ≠some 48):0<val l:=by
 induction l using snoc_ind with
 |h0=>exact absurd rfl hn
 |hs l b ih=>
  rw[val_snoc]
  have h2:=h.init.2
  by_cases e:l= []
  ·subst e
   have:b.toNat≠48:=by
    intro hb
    apply hh
    have:b=48:=UInt8.toNat_inj.1 hb
    rw[this];rfl
   omega
  ·have h3:l.head? ≠some 48:=by
    intro h4
    apply hh
    rw[List.head?_append,h4];rfl
   have:=ih h.init.1 e h3
   omega

theorem dec_val (l:List UInt8) (h:AllD l) (hn:l≠ []) (hh:l.length=1∨l.head? ≠some 48):Lib.decDigits (val l)=l:=by
 induction l using snoc_ind with
 |h0=>exact absurd rfl hn
 |hs l b ih=>
  have h2:=h.init.2
  by_cases e:l= []
  ·subst e
   show Lib.decDigits (10*0+(b.toNat-48))= [b]
   rw[dec_small _ (by omega),show 48+(10*0+(b.toNat-48))=48+(b.toNat-48)from by omega,digit_eq b h2]
  ·have hle:l.length≠0:=fun h4=>e (List.eq_nil_of_length_eq_zero h4)
   have h3:l.head? ≠some 48:=by
    intro h4
    rcases hh with h5|h5
    ·rw[List.length_append]at h5
     simp at h5
     exact e h5
    ·apply h5
     rw[List.head?_append,h4];rfl
   have hp:=val_pos l h.init.1 e h3
   rw[val_snoc,dec_big _ (by omega),show(10*val l+(b.toNat-48))/10=val l from by omega,show(10*val l+(b.toNat-48))%10=b.toNat-48 from by omega,ih h.init.1 e (Or.inr h3),digit_eq b h2]

theorem dec_head (u:Nat) (h:0<u):(Lib.decDigits u).head? ≠some 48:=by
 induction u using Nat.strongRecOn with
 |_ u ih=>
  by_cases hs:u<10
  ·rw[dec_small u hs]
   intro h1
   have h2:UInt8.ofNat (48+u)=48:=by simpa using h1
   have h3:=congrArg UInt8.toNat h2
   rw[UInt8.toNat_ofNat']at h3
   have h4:(48:UInt8).toNat=48:=rfl
   omega
  ·rw[dec_big u hs,List.head?_append]
   have h1:=ih (u/10) (by omega) (by omega)
   cases hc:(Lib.decDigits (u/10)).head? with
   |none=>exact absurd (List.head?_eq_none_iff.1 hc) (dec_ne _)
   |some c=>rw[hc]at h1;exact h1

theorem dec_not (l:List UInt8) (h1:l.length≠1) (h2:l.head? =some 48):Lib.decDigits (val l)≠l:=by
 intro h
 by_cases h0:0<val l
 ·have:=dec_head (val l) h0
  rw[h]at this
  exact this h2
 ·rw[show val l=0 from by omega,dec_small 0 (by omega)]at h
  rw[←h]at h1
  exact h1 rfl
end Math
end Go.Proofs.YtcjgkmhpeedhiaaGreatDoor
