/- Plain facts on integers that the contracts of chapter 1 rest on: remainders, powers, divisors, inverses, primes. -/
import Derived.Handy
namespace Go.Proofs.YtcjgkmhpeedhiaaGreatDoor
namespace Math

theorem tmod_neg (x m:Int) (h:2≤m) (hn:x.tmod m<0):x.tmod m+m=x%m:=by
 rw[Int.tmod_eq_emod]at*
 have h1:=Int.emod_nonneg x (show m≠0 by omega)
 split at hn
 ·omega
 ·rename_i hc
  rw[if_neg hc]
  omega

theorem tmod_pos (x m:Int) (h:2≤m) (hn:0≤x.tmod m):x.tmod m=x%m:=by
 rw[Int.tmod_eq_emod]at*
 have h1:=Int.emod_lt_of_pos x (show 0<m by omega)
 split at hn
 ·rename_i hc
  rw[if_pos hc]
  omega
 ·omega

theorem emod_bd (x m:Int) (h:2≤m):0≤x%m∧x%m<m:=
 ⟨Int.emod_nonneg x (by omega),Int.emod_lt_of_pos x (by omega)⟩

theorem mul_bd (a b m:Int) (ha:0≤a) (hb:0≤b) (ha':a<m) (hb':b<m) (hm:m≤2147483647):
 0≤a*b∧a*b≤4611686018427387904:=by
 refine⟨Int.mul_nonneg ha hb,?_⟩
 have h1:a*b≤2147483647*2147483647:=Int.mul_le_mul (by omega) (by omega) hb (by omega)
 omega

theorem gcd_step (x y:Nat):Nat.gcd y (x%y)=Nat.gcd x y:=by
 rw[Nat.gcd_comm y (x%y),←Nat.gcd_rec y x,Nat.gcd_comm]

def pw (a:Int) (n:Nat) (m:Int):Int:=a^n%m

theorem pow_emod (x m:Int) (k:Nat):(x%m)^k%m=x^k%m:=by
 induction k with
 |zero=>simp
 |succ k ih=>
  rw[Int.pow_succ,Int.pow_succ,Int.mul_emod,ih,Int.emod_emod_of_dvd _ (Int.dvd_refl m),←Int.mul_emod]

theorem pow_two (x:Int) (k:Nat):(x*x)^k=x^(2*k):=by
 rw[Int.pow_mul]
 congr 1
 rw[show(2:Nat)=1+1 from rfl,Int.pow_succ,Int.pow_succ,Int.pow_zero,Int.one_mul]

theorem pw_odd (o b m:Int) (n:Nat) (h:n%2=1):(o*b%m)*(b*b%m)^(n/2)%m=o*b^n%m:=by
 rw[Int.mul_emod,pow_emod,Int.emod_emod_of_dvd _ (Int.dvd_refl m),←Int.mul_emod,pow_two,Int.mul_assoc,Int.mul_comm b,←Int.pow_succ,show(2*(n/2)).succ=n from by omega]

theorem pw_even (o b m:Int) (n:Nat) (h:n%2=0):o*(b*b%m)^(n/2)%m=o*b^n%m:=by
 rw[Int.mul_emod,pow_emod,←Int.mul_emod,pow_two,show 2*(n/2)=n from by omega]

theorem pw_bd (a m:Int) (n:Nat) (h:2≤m):0≤pw a n m∧pw a n m<m:=emod_bd _ _ h

theorem mul_bd' (a b:Int) (ha:0≤a) (hb:0≤b) (ha':a≤2147483647) (hb':b≤2147483647):
 0≤a*b∧a*b≤4611686018427387904:=by
 refine⟨Int.mul_nonneg ha hb,?_⟩
 have h1:a*b≤2147483647*2147483647:=Int.mul_le_mul (by omega) (by omega) hb (by omega)
 omega

theorem div_bd (x y:Int) (hx:0≤x) (hy:0<y):0≤x/y∧x/y≤x∧0≤x/y*y∧x/y*y≤x∧0≤x-x/y*y∧x-x/y*y<y:=by
 have h1:=Int.emod_nonneg x (show y≠0 by omega)
 have h2:=Int.emod_lt_of_pos x hy
 have h3:=Int.emod_def x y
 have h4:x/y*y=y*(x/y):=Int.mul_comm _ _
 have h5:0≤x/y:=Int.ediv_nonneg hx (by omega)
 have h6:0≤x/y*y:=Int.mul_nonneg h5 (by omega)
 have h7:x/y≤x:=Int.ediv_le_self _ hx
 refine⟨h5,h7,h6,by omega,by omega,by omega⟩

theorem gcd_int (x y:Int) (hx:0≤x) (hy:0<y):Nat.gcd y.toNat (x-x/y*y).toNat=Nat.gcd x.toNat y.toNat:=by
 have h3:=Int.emod_def x y
 have h4:x/y*y=y*(x/y):=Int.mul_comm _ _
 have e:(x-x/y*y).toNat=x.toNat%y.toNat:=by
  rw[h4,←h3]
  obtain⟨a,rfl⟩:=Int.eq_ofNat_of_zero_le hx
  obtain⟨b,rfl⟩:=Int.eq_ofNat_of_zero_le (show 0≤y by omega)
  rfl
 rw[e,gcd_step]

def invTo (a m:Int):Nat→Int
 |0=>0
 |k+1=>if a*k%m=1 then k else invTo a m k

def inv (a m:Int):Int:=invTo a m m.toNat

theorem dvd_of_one (a m x:Int) (e:a*x%m=1):m∣x*a-1:=by
 have h1:=Int.emod_def (a*x) m
 refine⟨a*x/m,?_⟩
 rw[Int.mul_comm x a]
 omega

theorem one_of_dvd (a m x:Int) (h:2≤m) (e:m∣x*a-1):a*x%m=1:=by
 obtain⟨t,ht⟩:=e
 have:a*x=1+m*t:=by rw[Int.mul_comm a x];omega
 rw[this,Int.add_mul_emod_self_left]
 exact Int.emod_eq_of_lt (by omega) (by omega)

theorem unique (a m x y:Int) (h:2≤m) (hx:0≤x) (hx':x<m) (hy:0≤y) (hy':y<m) (e:m∣x*a-1) (f:m∣y*a-1):x=y:=by
 have d:m∣x-y:=by
  have h1:m∣y*(x*a-1):=Int.dvd_mul_of_dvd_right e
  have h2:m∣x*(y*a-1):=Int.dvd_mul_of_dvd_right f
  have h3:=Int.dvd_sub h2 h1
  have h4:x*(y*a-1)-y*(x*a-1)=y-x:=by
   rw[Int.mul_sub,Int.mul_sub,←Int.mul_assoc,←Int.mul_assoc,Int.mul_comm x y]
   omega
  rw[h4]at h3
  have h5:=Int.dvd_neg.2 h3
  rwa [Int.neg_sub]at h5
 obtain⟨t,ht⟩:=d
 have:t=0:=by
  have h1: -1<t:=by
   apply Int.lt_of_mul_lt_mul_left (a:=m) _ (by omega)
   omega
  have h2:t<1:=by
   apply Int.lt_of_mul_lt_mul_left (a:=m) _ (by omega)
   omega
  omega
 subst this
 omega

theorem invTo_eq (a m x:Int) (h:2≤m) (hx:0≤x) (e:m∣x*a-1) (k:Nat) (hk:(k:Int)≤m) (hxk:x<k):invTo a m k=x:=by
 induction k with
 |zero=>omega
 |succ k ih=>
  unfold invTo
  by_cases c:a*k%m=1
  ·rw[if_pos c]
   exact unique a m k x h (by omega) (by omega) hx (by omega) (dvd_of_one a m k c) e
  ·rw[if_neg c]
   apply ih (by omega)
   have:x≠k:=by
    intro hh
    subst hh
    exact c (one_of_dvd a m k h e)
   omega

theorem inv_eq (a m x:Int) (h:2≤m) (hx:0≤x) (hx':x<m) (e:m∣x*a-1):x=inv a m:=
 (invTo_eq a m x h hx e m.toNat (by omega) (by omega)).symm

structure Eu (a m r0 r1 x0 x1:Int):Prop where
 a0:1≤r0
 a1:r0≤m
 b0:0≤r1
 b1:r1≤m
 g:Nat.gcd r0.toNat r1.toNat=Nat.gcd a.toNat m.toNat
 d0:m∣x0*a-r0
 d1:m∣x1*a-r1
 s:∃p q,0≤p∧0≤q∧r0*q+r1*p=m∧((x0=p∧x1= -q)∨(x0= -p∧x1=q))

theorem Eu.start (a m:Int) (h:2≤m) (ha:0≤a) (ha':a<m):Eu a m m a 0 1:=
 ⟨by omega,by omega,ha,by omega,Nat.gcd_comm _ _,by rw[Int.zero_mul,Int.zero_sub];exact Int.dvd_neg.2 (Int.dvd_refl m),by rw[Int.one_mul,Int.sub_self];exact Int.dvd_zero m,
  0,1,by omega,by omega,by omega,Or.inr ⟨by omega,rfl⟩⟩

theorem dvd_step (a m r0 r1 x0 x1 k:Int) (d0:m∣x0*a-r0) (d1:m∣x1*a-r1):m∣(x0-k*x1)*a-(r0-k*r1):=by
 have h1:m∣k*(x1*a-r1):=Int.dvd_mul_of_dvd_right d1
 have h2:=Int.dvd_sub d0 h1
 have h3:x0*a-r0-k*(x1*a-r1)=(x0-k*x1)*a-(r0-k*r1):=by
  rw[Int.mul_sub,Int.sub_mul,←Int.mul_assoc]
  omega
 rwa [h3]at h2

theorem le_of_mul (x y m:Int) (hx:1≤x) (hy:0≤y) (h:x*y≤m):y≤m:=by
 have h1:1*y≤x*y:=Int.mul_le_mul_of_nonneg_right hx hy
 omega

theorem Eu.bd {a m r0 r1 x0 x1:Int} (h:Eu a m r0 r1 x0 x1) (hr:0<r1):
 -m≤x0∧x0≤m∧ -m≤x1∧x1≤m∧ -m≤r0/r1*x1∧r0/r1*x1≤m∧ -m≤x0-r0/r1*x1∧x0-r0/r1*x1≤m:=by
 obtain⟨p,q,hp,hq,e,hs⟩:=h.s
 have ha0:=h.a0
 obtain⟨k1,k2,k3,k4,k5,k6⟩:=div_bd r0 r1 (by omega) hr
 have m1:0≤r0*q:=Int.mul_nonneg (by omega) hq
 have m2:0≤r1*p:=Int.mul_nonneg (by omega) hp
 have hp':p≤m:=le_of_mul r1 p m (by omega) hp (by omega)
 have hq':q≤m:=le_of_mul r0 q m (by omega) hq (by omega)
 have m3:0≤r0/r1*q:=Int.mul_nonneg k1 hq
 have m4:r1*(p+r0/r1*q)≤m:=by
  have n1:r0/r1*r1*q≤r0*q:=Int.mul_le_mul_of_nonneg_right k4 hq
  have n2:r1*(p+r0/r1*q)=r1*p+r0/r1*r1*q:=by
   rw[Int.mul_add,←Int.mul_assoc,Int.mul_comm r1 (r0/r1)]
  omega
 have m5:p+r0/r1*q≤m:=le_of_mul r1 _ m (by omega) (by omega) m4
 rcases hs with⟨rfl,rfl⟩|⟨rfl,rfl⟩
 ·rw[Int.mul_neg]
  omega
 ·omega

theorem Eu.step {a m r0 r1 x0 x1:Int} (h:Eu a m r0 r1 x0 x1) (hr:0<r1):Eu a m r1 (r0-r0/r1*r1) x1 (x0-r0/r1*x1):=by
 obtain⟨p,q,hp,hq,e,hs⟩:=h.s
 have ha0:=h.a0
 have hb1:=h.b1
 obtain⟨k1,k2,k3,k4,k5,k6⟩:=div_bd r0 r1 (by omega) hr
 refine⟨by omega,hb1,k5,by omega,?_,h.d1,dvd_step a m r0 r1 x0 x1 _ h.d0 h.d1,q,p+r0/r1*q,hq,?_,?_,?_⟩
 ·rw[gcd_int r0 r1 (by omega) hr];exact h.g
 ·have:=Int.mul_nonneg k1 hq;omega
 ·have n1:r1*(p+r0/r1*q)=r1*p+r0/r1*r1*q:=by
   rw[Int.mul_add,←Int.mul_assoc,Int.mul_comm r1 (r0/r1)]
  have n2:(r0-r0/r1*r1)*q=r0*q-r0/r1*r1*q:=Int.sub_mul _ _ _
  rw[n1,n2]
  omega
 ·rcases hs with⟨rfl,rfl⟩|⟨rfl,rfl⟩
  ·refine Or.inr ⟨rfl,?_⟩
   rw[Int.mul_neg];omega
  ·refine Or.inl ⟨rfl,?_⟩
   omega

theorem inv_mod (a m x:Int) (h:2≤m) (e:m∣x*a-1):x%m=inv a m:=by
 obtain⟨h1,h2⟩:=emod_bd x m h
 refine inv_eq a m _ h h1 h2 ?_
 have h3:=Int.emod_def x m
 obtain⟨t,ht⟩:=e
 refine⟨t-x/m*a,?_⟩
 rw[h3,Int.sub_mul,Int.mul_sub,Int.mul_assoc]
 omega

theorem Eu.done {a m r0 x0 x1:Int} (h:Eu a m r0 0 x0 x1) (hm:2≤m) (hg:Nat.gcd a.toNat m.toNat=1):x0%m=inv a m:=by
 have e:r0=1:=by
  have h1:=h.g
  rw[hg]at h1
  have h2:=h.a0
  simp at h1
  omega
 refine inv_mod a m x0 hm ?_
 have:=h.d0
 rwa [e]at this

structure Er (a m r0 r1 x0 x1:Int):Prop where
 a0:1≤r0
 a1:r0≤m
 b0:0≤r1
 b1:r1≤m
 g:Nat.gcd r0.toNat r1.toNat=Nat.gcd a.toNat m.toNat
 d0:m∣x0*a-r0
 d1:m∣x1*a-r1
 x00:0≤x0
 x01:x0<m
 x10:0≤x1
 x11:x1<m

theorem Er.start (a m:Int) (h:2≤m) (ha:0≤a) (ha':a<m):Er a m m a 0 1:=
 ⟨by omega,by omega,ha,by omega,Nat.gcd_comm _ _,by rw[Int.zero_mul,Int.zero_sub];exact Int.dvd_neg.2 (Int.dvd_refl m),by rw[Int.one_mul,Int.sub_self];exact Int.dvd_zero m,
  by omega,by omega,by omega,by omega⟩

theorem Er.step {a m r0 r1 x0 x1:Int} (h:Er a m r0 r1 x0 x1) (hm:2≤m) (hr:0<r1):Er a m r1 (r0%r1) x1 ((x0+m-r0/r1*x1%m)%m):=by
 have ha0:=h.a0
 have hb1:=h.b1
 obtain⟨k1,k2,k3,k4,k5,k6⟩:=div_bd r0 r1 (by omega) hr
 have e:r0%r1=r0-r0/r1*r1:=by
  have h3:=Int.emod_def r0 r1
  rw[h3,Int.mul_comm]
 obtain⟨y1,y2⟩:=emod_bd (x0+m-r0/r1*x1%m) m hm
 refine⟨by omega,hb1,by omega,by omega,?_,h.d1,?_,h.x10,h.x11,y1,y2⟩
 ·rw[e,gcd_int r0 r1 (by omega) hr];exact h.g
 ·have hd:=dvd_step a m r0 r1 x0 x1 (r0/r1) h.d0 h.d1
  rw[←e]at hd
  have h3:=Int.emod_def (x0+m-r0/r1*x1%m) m
  have h4:=Int.emod_def (r0/r1*x1) m
  obtain⟨t,ht⟩:=hd
  generalize hA:(x0+m-r0/r1*x1%m)/m=A at*
  generalize hB:r0/r1*x1/m=B at*
  refine⟨t+(1+B-A)*a,?_⟩
  have e2:(x0+m-r0/r1*x1%m)%m=(x0-r0/r1*x1)+m*(1+B-A):=by
   rw[h3,h4,Int.mul_sub,Int.mul_add,Int.mul_one];omega
  rw[e2,Int.add_mul,Int.mul_add,←ht,Int.mul_assoc]
  omega

theorem Er.bd {a m r0 r1 x0 x1:Int} (h:Er a m r0 r1 x0 x1) (hm:2≤m) (hm':m≤2147483647) (hr:0<r1):
 0≤r0/r1∧r0/r1≤2147483647∧0≤r0/r1*x1%m∧r0/r1*x1%m<m:=by
 have ha0:=h.a0
 have ha1:=h.a1
 obtain⟨k1,k2,k3,k4,k5,k6⟩:=div_bd r0 r1 (by omega) hr
 obtain⟨y1,y2⟩:=emod_bd (r0/r1*x1) m hm
 exact⟨k1,by omega,y1,y2⟩

theorem Er.gcd {a m r0 x0 x1:Int} (h:Er a m r0 0 x0 x1):r0=Nat.gcd a.toNat m.toNat:=by
 have h1:=h.g
 have h2:=h.a0
 simp at h1
 omega

theorem Er.done {a m r0 x0 x1:Int} (h:Er a m r0 0 x0 x1) (hm:2≤m) (hg:r0=1):x0=inv a m:=by
 have:=h.d0
 rw[hg]at this
 exact inv_eq a m x0 hm h.x00 h.x01 this

theorem invTo_bd (a m:Int) (k:Nat):0≤invTo a m k∧(0<k→invTo a m k<k):=by
 induction k with
 |zero=>exact⟨by simp[invTo],by omega⟩
 |succ k ih=>
  unfold invTo
  split
  ·exact⟨by omega,by omega⟩
  ·refine⟨ih.1,fun _=> ?_⟩
   by_cases h:0<k
   ·have:=ih.2 h;omega
   ·obtain rfl:k=0:=by omega
    simp[invTo]

theorem inv_bd (a m:Int) (h:2≤m):0≤inv a m∧inv a m<m:=by
 have h1:=invTo_bd a m m.toNat
 refine⟨h1.1,?_⟩
 have:=h1.2 (by omega)
 unfold inv
 omega

theorem Eu.ends (a m:Int) (hg:Nat.gcd a.toNat m.toNat=1) (n:Nat):∀r0 r1 x0 x1,Eu a m r0 r1 x0 x1→r1.toNat≤n→∃x,m∣x*a-1:=by
 induction n with
 |zero=>
  intro r0 r1 x0 x1 E hn
  have hb:=E.b0
  obtain rfl:r1=0:=by omega
  have h1:=E.g
  rw[hg]at h1
  have h2:=E.a0
  simp at h1
  obtain rfl:r0=1:=by omega
  exact⟨x0,E.d0⟩
 |succ n ih=>
  intro r0 r1 x0 x1 E hn
  have hb:=E.b0
  have ha:=E.a0
  by_cases hr:0<r1
  ·have h6:=(div_bd r0 r1 (by omega) hr).2.2.2.2.2
   exact ih _ _ _ _ (E.step hr) (by omega)
  ·exact ih _ _ _ _ E (by omega)

theorem inv_ok (a m:Int) (h:2≤m) (ha:0≤a) (ha':a<m) (hg:Nat.gcd a.toNat m.toNat=1):a*inv a m%m=1:=by
 obtain⟨x,hx⟩:=Eu.ends a m hg a.toNat m a 0 1 (Eu.start a m h ha ha') (Nat.le_refl _)
 have e:=inv_mod a m x h hx
 have h1:=one_of_dvd a m x h hx
 rw[←e,Int.mul_emod,Int.emod_emod_of_dvd _ (Int.dvd_refl m),←Int.mul_emod]
 exact h1

def primeB (n:Int):Bool:=decide (∀d:Nat,d<n.toNat→2≤d→n.toNat%d≠0)

theorem primeB_yes (n:Int) (h:∀d:Nat,2≤d→d<n.toNat→n.toNat%d≠0):primeB n=true:=
 decide_eq_true fun d hd h2=>h d h2 hd

theorem primeB_no (n:Int) (d:Nat) (h2:2≤d) (hd:d<n.toNat) (h:n.toNat%d=0):primeB n=false:=
 decide_eq_false fun hh=>hh d hd h2 h

theorem prime_of (n k:Nat) (hk:n<k*k) (h:∀d:Nat,2≤d→d<k→n%d≠0) (d:Nat) (h2:2≤d) (hd:d<n):n%d≠0:=by
 intro hz
 by_cases hdk:d<k
 ·exact h d h2 hdk hz
 ·have h1:=Nat.div_add_mod n d
  rw[hz,Nat.add_zero]at h1
  have hc:n/d<k:=by
   apply Nat.lt_of_not_le
   intro hc
   have:=Nat.mul_le_mul (show k≤d by omega) hc
   omega
  have hc2:2≤n/d:=by
   apply Nat.le_of_not_lt
   intro hlt
   generalize n/d=c at*
   have h3:c=0∨c=1:=by omega
   rcases h3 with h3|h3
   ·rw[h3]at h1;omega
   ·rw[h3]at h1;omega
  refine h (n/d) hc2 hc ?_
  apply Nat.mod_eq_zero_of_dvd
  exact⟨d,by rw[Nat.mul_comm];exact h1.symm⟩

theorem root_bd (n k:Nat) (h:k*k≤n) (hn:n≤2147483647):k≤46340:=by
 apply Nat.le_of_not_lt
 intro hlt
 have:46341*46341≤k*k:=Nat.mul_le_mul hlt hlt
 omega

theorem sq_lt (n k:Nat) (h:k*k≤n) (hk:2≤k):k<n:=by
 have:2*k≤k*k:=Nat.mul_le_mul_right k hk
 omega

theorem primeB_even (n:Nat) (h2:2≤n) (he:n%2=0):primeB n=decide (n=2):=by
 by_cases h:n=2
 ·subst h
  exact primeB_yes _ (fun d h1 h2=>by simp at h2;omega)
 ·rw[primeB_no (n:Int) 2 (by omega) (by simp;omega) (by simpa using he)]
  simp[h]

theorem no_next (n k:Nat) (h:∀d:Nat,2≤d→d<k→n%d≠0) (hk:n%k≠0) (d:Nat) (h2:2≤d) (hd:d<k+1):n%d≠0:=by
 by_cases e:d=k
 ·rw[e];exact hk
 ·exact h d h2 (by omega)

theorem no_next2 (n k:Nat) (ho:n%2=1) (hko:k%2=1) (h:∀d:Nat,2≤d→d<k→n%d≠0) (hk:n%k≠0) (d:Nat) (h2:2≤d) (hd:d<k+2):n%d≠0:=by
 by_cases e:d=k+1
 ·intro hz
  have h1:=Nat.mod_mod_of_dvd n (show 2∣d from⟨(k+1)/2,by omega⟩)
  rw[hz]at h1
  omega
 ·exact no_next n k h hk d h2 (by omega)
end Math
end Go.Proofs.YtcjgkmhpeedhiaaGreatDoor
