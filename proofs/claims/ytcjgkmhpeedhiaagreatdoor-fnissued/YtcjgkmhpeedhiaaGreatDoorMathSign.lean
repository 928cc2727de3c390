/- Plain facts on integers that the contracts of chapter 2 rest on: periods of powers, and why a mark that was made by the equation meets it. -/
import Derived.Test.YtcjgkmhpeedhiaaGreatDoorMath
namespace Go.Proofs.YtcjgkmhpeedhiaaGreatDoor
namespace Math

theorem one_emod (p:Int) (hp:2≤p):(1:Int)%p=1:=Int.emod_eq_of_lt (by omega) (by omega)

theorem emod_two (x p:Int):x%p%p=x%p:=Int.emod_emod_of_dvd _ (Int.dvd_refl p)

theorem one_pow' (n:Nat):(1:Int)^n=1:=by
 induction n with
 |zero=>rfl
 |succ n ih=>rw[Int.pow_succ,ih];rfl

theorem pow_one_emod (a p:Int) (hp:2≤p) (h:a%p=1) (n:Nat):a^n%p=1:=by
 rw[←pow_emod,h,one_pow',one_emod p hp]

theorem period (g p:Int) (q:Nat) (hp:2≤p) (h:g^q%p=1) (a:Nat):g^a%p=g^(a%q)%p:=by
 have e:g^a=(g^q)^(a/q)*g^(a%q):=by
  rw[←Int.pow_mul,←Int.pow_add,Nat.div_add_mod]
 rw[e,Int.mul_emod,pow_one_emod _ p hp h,Int.one_mul,emod_two]

theorem pow_pow_emod (g p:Int) (a b:Nat):(g^a%p)^b%p=g^(a*b)%p:=by
 rw[pow_emod,←Int.pow_mul]

theorem open_not_one (g p:Int) (q x y:Nat) (hp:2≤p) (h:g^q%p=1) (hxy:x*y%q=1) (hg:2≤g) (hg':g<p):g^x%p≠1:=by
 intro h1
 have h2:(g^x)^y%p=1:=pow_one_emod _ p hp h1 y
 rw[←Int.pow_mul,period g p q hp h,hxy,Int.pow_succ,Int.pow_zero,Int.one_mul,Int.emod_eq_of_lt (by omega) hg']at h2
 omega

theorem open_in (g p:Int) (q x:Nat) (hp:2≤p) (h:g^q%p=1):(g^x%p)^q%p=1:=by
 rw[pow_pow_emod,Nat.mul_comm,Int.pow_mul]
 exact pow_one_emod _ p hp h x

theorem zero_pow' (n:Nat) (h:0<n):(0:Int)^n=0:=by
 cases n with
 |zero=>omega
 |succ n=>rw[Int.pow_succ,Int.mul_zero]

theorem open_not_zero (g p:Int) (q x:Nat) (hp:2≤p) (h:g^q%p=1) (hq:2≤q):g^x%p≠0:=by
 intro h0
 have h1:=open_in g p q x hp h
 rw[h0,zero_pow' q (by omega)]at h1
 simp at h1

theorem emod_ex (a q:Int):∃t,a%q=a+q*t:=⟨-(a/q),by have:=Int.emod_def a q;rw[Int.mul_neg];omega⟩

theorem ex_of_one (a q:Int) (h:a%q=1):∃t,a=1+q*t:=⟨a/q,by have:=Int.emod_def a q;omega⟩

theorem exps (h w q a b c d e k ki r s u v x:Int) (h1:u=h*w+q*a) (h2:v=r*w+q*b) (h3:s=ki*(h+x*r)+q*c) (h4:s*w=1+q*d) (h5:k*ki=1+q*e):
 u+x*v=k+q*(a+x*b+k*d-c*k*w-e*(h+x*r)*w):=by grind

theorem exps_mod (q h w k ki r x:Int) (h4:(ki*(h+x*r)%q)*w%q=1) (h5:k*ki%q=1):(h*w%q+x*(r*w%q))%q=k%q:=by
 obtain⟨a,ha⟩:=emod_ex (h*w) q
 obtain⟨b,hb⟩:=emod_ex (r*w) q
 obtain⟨c,hc⟩:=emod_ex (ki*(h+x*r)) q
 obtain⟨d,hd⟩:=ex_of_one _ q h4
 obtain⟨e,he⟩:=ex_of_one _ q h5
 rw[exps h w q a b c d e k ki r _ _ _ x ha hb hc hd he,Int.add_mul_emod_self_left]

theorem equation (g p:Int) (q x u v k:Nat) (hp:2≤p) (h:g^q%p=1) (e:(u+x*v)%q=k%q):(g^u%p)*((g^x%p)^v%p)%p=g^k%p:=by
 rw[pow_pow_emod,←Int.mul_emod,←Int.pow_add,period g p q hp h,e,←period g p q hp h]

theorem sum_mod (h x r q:Int):(h+x%q*(r%q)%q)%q=(h+x*r)%q:=by
 rw[←Int.mul_emod,Int.add_emod,emod_two,←Int.add_emod]

theorem prime_gcd (q a:Nat) (h:∀d:Nat,2≤d→d<q→q%d≠0) (ha:1≤a) (haq:a<q):Nat.gcd a q=1:=by
 have h1:=Nat.gcd_dvd_left a q
 have h2:=Nat.gcd_dvd_right a q
 have h3:=Nat.le_of_dvd (by omega) h1
 have h4:=Nat.gcd_pos_of_pos_left q (show 0<a by omega)
 by_cases h5:Nat.gcd a q=1
 ·exact h5
 ·exact absurd (Nat.mod_eq_zero_of_dvd h2) (h _ (by omega) (by omega))

def noDiv (n:Nat):Nat→Nat→Bool
 |0,lo=>n%lo !=0
 |f+1,lo=>noDiv n f lo&&noDiv n f (lo+2^f)

theorem noDiv_ok (n f:Nat):∀lo,noDiv n f lo=true→∀d,lo≤d→d<lo+2^f→n%d≠0:=by
 induction f with
 |zero=>
  intro lo h d h1 h2
  obtain rfl:d=lo:=by omega
  simpa [noDiv]using h
 |succ f ih=>
  intro lo h d h1 h2
  rw[noDiv,Bool.and_eq_true]at h
  rw[Nat.pow_succ]at h2
  by_cases hd:d<lo+2^f
  ·exact ih lo h.1 d h1 hd
  ·exact ih _ h.2 d (by omega) (by omega)

theorem primeB_of (n f:Nat) (h:noDiv n f 2=true) (hf:n<(2+2^f)*(2+2^f)):primeB n=true:=by
 apply primeB_yes
 intro d h2 hd
 rw[Int.toNat_natCast]at hd⊢
 exact prime_of n (2+2^f) hf (fun d h1 h2=>noDiv_ok n f 2 h d h1 h2) d h2 hd

end Math
end Go.Proofs.YtcjgkmhpeedhiaaGreatDoor
