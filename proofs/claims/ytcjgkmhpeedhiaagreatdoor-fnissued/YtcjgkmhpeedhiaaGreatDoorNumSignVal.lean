/- What the functions of chapter 2 answer, as functions of their arguments; and that what is signed verifies. -/
import Derived.Test.YtcjgkmhpeedhiaaGreatDoorNumAll
import Derived.Test.YtcjgkmhpeedhiaaGreatDoorMathSign
namespace Go.Proofs.YtcjgkmhpeedhiaaGreatDoor
namespace Num

def okP (p q g:Int):Bool:=primeV p&&primeV q&&decide (100≤q)&&decide ((p-1)%q=0)&&decide (2≤g∧g≤p-1)&&decide (powV g q p=1)

theorem okP_facts {p q g:Int} (h:okP p q g=true):Meas p∧Meas q∧100≤q∧q≤p-1∧(p-1)%q=0∧2≤g∧g≤p-1∧powV g q p=1∧primeV q=true∧primeV p=true:=by
 simp only[okP,Bool.and_eq_true,decide_eq_true_eq]at h
 obtain⟨⟨⟨⟨⟨h1,h2⟩,h3⟩,h4⟩,h5⟩,h6⟩:=h
 have hp:=primeV_meas p h1
 have hq:=primeV_meas q h2
 have hle:q≤p-1:=Int.le_of_dvd (by omega) (Int.dvd_of_emod_eq_zero h4)
 exact⟨hp,hq,h3,hle,h4,h5.1,h5.2,h6,h2,h1⟩

theorem okP_yes {p q g:Int} (h1:primeV p=true) (h2:primeV q=true) (h3:100≤q) (h4:(p-1)%q=0) (h5:2≤g) (h6:g≤p-1) (h7:powV g q p=1):okP p q g=true:=by
 simp[okP,h1,h2,h3,h4,h5,h6,h7]

def rV (p q g k:Int):Int:=modV (powV g k p) q

def sV (p q g x h k:Int):Int:=mulV (invI k q) (h+mulV x (rV p q g k) q) q

def doV (p q g x h k:Int):Bool:=decide (1≤k∧k≤q-1)&& !(rV p q g k==0)&& !(sV p q g x h k==0)

def inQ (q r:Int):Bool:=decide (1≤r∧r≤q-1)

def opOk (p q o:Int):Bool:=decide (2≤o∧o≤p-1)&&decide (powV o q p=1)

def eqV (p q g o h r s:Int):Int:=modV (mulV (powV g (mulV h (invI s q) q) p) (powV o (mulV r (invI s q) q) p) p) q

theorem invB_prime (q a:Int) (h:primeV q=true) (h1:1≤a) (h2:a≤q-1):invB a q=true:=by
 have hm:=primeV_meas q h
 have h3:Nat.gcd (a%q).toNat q.toNat=1:=by
  rw[Int.emod_eq_of_lt (by omega) (by omega)]
  obtain⟨x,rfl⟩:=Int.eq_ofNat_of_zero_le (show 0≤a by omega)
  obtain⟨y,rfl⟩:=Int.eq_ofNat_of_zero_le (show 0≤q by omega)
  refine Math.prime_gcd y x ?_ (by omega) (by omega)
  intro d hd1 hd2 hd3
  exact primeV_ok (y:Int) (d:Int) h (by omega) (by omega) (by exact_mod_cast hd3)
 unfold invB
 exact decide_eq_true ⟨hm.1,hm.2,h3⟩

theorem rV_bd {p q g k:Int} (h:Meas q):0≤rV p q g k∧rV p q g k<q:=by
 unfold rV
 rw[modV_yes _ h]
 exact Math.emod_bd _ _ h.1

theorem sV_bd {p q g x h k:Int} (hq:Meas q):0≤sV p q g x h k∧sV p q g x h k<q:=by
 unfold sV
 rw[mulV_yes _ _ hq]
 exact Math.emod_bd _ _ hq.1

theorem mulV_bd (a b:Int) {q:Int} (h:Meas q):0≤mulV a b q∧mulV a b q<q:=by
 rw[mulV_yes _ _ h]
 exact Math.emod_bd _ _ h.1

theorem mulV_mul (a b:Int) {q:Int} (h:Meas q):mulV a b q=a*b%q:=by
 rw[mulV_yes _ _ h,←Int.mul_emod]

theorem powV_eq (a:Int) {n m:Int} (hm:Meas m) (h0:0≤n) (h1:n≤2147483647):powV a n m=a^n.toNat%m:=powV_yes a ⟨hm.1,hm.2,h0,h1⟩

theorem powV_bd (a:Int) {n m:Int} (hm:Meas m) (h0:0≤n) (h1:n≤2147483647):0≤powV a n m∧powV a n m<m:=by
 rw[powV_eq a hm h0 h1]
 exact Math.emod_bd _ _ hm.1

theorem sV_impl (p q g x h k:Int) (hq:Meas q):mulV (invI k q) (h+x*rV p q g k) q=sV p q g x h k:=by
 unfold sV
 rw[mulV_yes _ _ hq,mulV_yes _ _ hq,mulV_yes x _ hq,Math.sum_mod]

theorem open_ok {p q g x:Int} (h:okP p q g=true) (h1:1≤x) (h2:x≤q-1):opOk p q (powV g x p)=true:=by
 obtain⟨hp,hq,hq1,hq2,hd,hg1,hg2,hpow,hpr,-⟩:=okP_facts h
 have hp1:=hp.1
 have hp2:=hp.2
 have hq3:=hq.1
 have hq4:=hq.2
 rw[powV_eq g hp (by omega) (by omega)]at hpow
 rw[powV_eq g hp (by omega) (by omega)]
 obtain⟨b1,b2⟩:=Math.emod_bd (g^x.toNat) p hp1
 have hi:=invB_ok x q (invB_prime q x hpr h1 h2)
 have n0:=Math.open_not_zero g p q.toNat x.toNat hp1 hpow (by omega)
 have n1:g^x.toNat%p≠1:=by
  refine Math.open_not_one g p q.toNat x.toNat (invI x q).toNat hp1 hpow ?_ hg1 (by omega)
  have e:=hi.2.2.2
  rw[mulV_mul _ _ hq]at e
  have i0:=hi.2.1
  generalize invI x q=y at*
  obtain⟨x',rfl⟩:=Int.eq_ofNat_of_zero_le (show 0≤x by omega)
  obtain⟨y',rfl⟩:=Int.eq_ofNat_of_zero_le i0
  obtain⟨q',rfl⟩:=Int.eq_ofNat_of_zero_le (show 0≤q by omega)
  simp only[Int.toNat_natCast]
  exact_mod_cast e
 have hi2:=Math.open_in g p q.toNat x.toNat hp1 hpow
 have hpo:powV (g^x.toNat%p) q p=1:=by
  rw[powV_eq _ hp (by omega) (by omega)]
  exact hi2
 unfold opOk
 rw[Bool.and_eq_true,decide_eq_true_eq,decide_eq_true_eq]
 refine⟨by omega,hpo⟩

theorem signed_eq {p q g x k h:Int} (hok:okP p q g=true) (h1:1≤x) (h2:x≤q-1) (hk:doV p q g x h k=true):
 eqV p q g (powV g x p) h (rV p q g k) (sV p q g x h k)=rV p q g k:=by
 obtain⟨hp,hq,hq1,hq2,hd,hg1,hg2,hpow,hpr,-⟩:=okP_facts hok
 have hp1:=hp.1
 have hp2:=hp.2
 have hq3:=hq.1
 have hq4:=hq.2
 simp only[doV,Bool.and_eq_true,Bool.not_eq_true',beq_eq_false_iff_ne,decide_eq_true_eq]at hk
 obtain⟨⟨⟨hk1,hk2⟩,hr⟩,hs⟩:=hk
 have rb:=rV_bd (p:=p) (g:=g) (k:=k) hq
 have sb:=sV_bd (p:=p) (g:=g) (x:=x) (h:=h) (k:=k) hq
 have ik:=invB_ok k q (invB_prime q k hpr hk1 hk2)
 have is:=invB_ok (sV p q g x h k) q (invB_prime q _ hpr (by omega) (by omega))
 have es:=sV_impl p q g x h k hq
 have ek:=ik.2.2.2
 have ew:=is.2.2.2
 rw[mulV_mul _ _ hq]at es ek ew
 have hrv:rV p q g k=powV g k p%q:=modV_yes _ hq
 unfold eqV
 have ub:=mulV_bd h (invI (sV p q g x h k) q) hq
 have vb:=mulV_bd (rV p q g k) (invI (sV p q g x h k) q) hq
 have ue:=mulV_mul h (invI (sV p q g x h k) q) hq
 have ve:=mulV_mul (rV p q g k) (invI (sV p q g x h k) q) hq
 have main:mulV (powV g (mulV h (invI (sV p q g x h k) q) q) p) (powV (powV g x p) (mulV (rV p q g k) (invI (sV p q g x h k) q) q) p) p=powV g k p:=by
  generalize invI (sV p q g x h k) q=w at*
  generalize mulV h w q=u at*
  generalize mulV (rV p q g k) w q=v at*
  generalize rV p q g k=r at*
  generalize invI k q=ki at*
  rw[←es]at ew
  have ex:=Math.exps_mod q h w k ki r x ew ek
  rw[←ue,←ve]at ex
  rw[powV_eq g hp (by omega) (by omega)]at hpow
  rw[mulV_mul _ _ hp,powV_eq g hp (by omega) (by omega),powV_eq g hp (by omega) (by omega),powV_eq _ hp (by omega) (by omega),powV_eq g hp (by omega) (by omega)]
  refine Math.equation g p q.toNat x.toNat u.toNat v.toNat k.toNat hp1 hpow ?_
  obtain⟨x',rfl⟩:=Int.eq_ofNat_of_zero_le (show 0≤x by omega)
  obtain⟨u',rfl⟩:=Int.eq_ofNat_of_zero_le ub.1
  obtain⟨v',rfl⟩:=Int.eq_ofNat_of_zero_le vb.1
  obtain⟨k',rfl⟩:=Int.eq_ofNat_of_zero_le (show 0≤k by omega)
  obtain⟨q',rfl⟩:=Int.eq_ofNat_of_zero_le (show 0≤q by omega)
  simp only[Int.toNat_natCast]
  exact_mod_cast ex
 rw[main]
 rfl

theorem doV_bd {p q g x h k:Int} (hq:Meas q) (hk:doV p q g x h k=true):inQ q (rV p q g k)=true∧inQ q (sV p q g x h k)=true:=by
 simp only[doV,Bool.and_eq_true,Bool.not_eq_true',beq_eq_false_iff_ne,decide_eq_true_eq]at hk
 obtain⟨⟨⟨hk1,hk2⟩,hr⟩,hs⟩:=hk
 have rb:=rV_bd (p:=p) (g:=g) (k:=k) hq
 have sb:=sV_bd (p:=p) (g:=g) (x:=x) (h:=h) (k:=k) hq
 unfold inQ
 exact⟨decide_eq_true (by omega),decide_eq_true (by omega)⟩

theorem primeV_of (n f:Nat) (h1:2≤n) (h2:n≤2147483647) (h:Math.noDiv n f 2=true) (hf:n<(2+2^f)*(2+2^f)):primeV n=true:=by
 rw[primeV_yes ⟨by omega,by omega⟩]
 exact Math.primeB_of n f h hf

theorem powV_nat (g q p:Nat) (hp:2≤p) (hp2:p≤2147483647) (hq:q≤2147483647) (h:g^q%p=1):powV g q p=1:=by
 rw[powV_eq _ ⟨by omega,by omega⟩ (by omega) (by omega),Int.toNat_natCast]
 exact_mod_cast h

theorem ok1:okP 1213 101 457=true:=okP_yes (primeV_of 1213 6 (by decide) (by decide) (by decide+kernel) (by decide+kernel)) (primeV_of 101 4 (by decide) (by decide) (by decide+kernel) (by decide+kernel)) (by decide) (by decide) (by decide) (by decide) (powV_nat 457 101 1213 (by decide) (by decide) (by decide) (by decide+kernel))

theorem ok2:okP 4243 101 1630=true:=okP_yes (primeV_of 4243 6 (by decide) (by decide) (by decide+kernel) (by decide+kernel)) (primeV_of 101 4 (by decide) (by decide) (by decide+kernel) (by decide+kernel)) (by decide) (by decide) (by decide) (by decide) (powV_nat 1630 101 4243 (by decide) (by decide) (by decide) (by decide+kernel))

theorem ok3:okP 240169 10007 205555=true:=okP_yes (primeV_of 240169 9 (by decide) (by decide) (by decide+kernel) (by decide+kernel)) (primeV_of 10007 7 (by decide) (by decide) (by decide+kernel) (by decide+kernel)) (by decide) (by decide) (by decide) (by decide) (powV_nat 205555 10007 240169 (by decide) (by decide) (by decide) (by decide+kernel))

theorem ok4:okP 63353 7919 256=true:=okP_yes (primeV_of 63353 8 (by decide) (by decide) (by decide+kernel) (by decide+kernel)) (primeV_of 7919 7 (by decide) (by decide) (by decide+kernel) (by decide+kernel)) (by decide) (by decide) (by decide) (by decide) (powV_nat 256 7919 63353 (by decide) (by decide) (by decide) (by decide+kernel))

theorem ok5:okP 917519 65537 16384=true:=okP_yes (primeV_of 917519 10 (by decide) (by decide) (by decide+kernel) (by decide+kernel)) (primeV_of 65537 8 (by decide) (by decide) (by decide+kernel) (by decide+kernel)) (by decide) (by decide) (by decide) (by decide) (powV_nat 16384 65537 917519 (by decide) (by decide) (by decide) (by decide+kernel))

theorem ok6:okP 36000109 1000003 31268764=true:=okP_yes (primeV_of 36000109 13 (by decide) (by decide) (by decide+kernel) (by decide+kernel)) (primeV_of 1000003 10 (by decide) (by decide) (by decide+kernel) (by decide+kernel)) (by decide) (by decide) (by decide) (by decide) (powV_nat 31268764 1000003 36000109 (by decide) (by decide) (by decide) (by decide+kernel))

end Num
end Go.Proofs.YtcjgkmhpeedhiaaGreatDoor
