/- Plain facts on integers that the contracts of chapter 2 rest on: periods of powers, and why a mark that was made by the equation meets it. -/
import Derived.Test.YtdcpjicgehdmfaaGreatDoorMath
namespace Go.Proofs.YtdcpjicgehdmfaaGreatDoor
namespace Math

theorem one_emod (p:Int) (hp:2≤p):(1:Int)%p=1:=Int.emod_eq_of_lt (by omega) (by omega)

theorem emod_two (x p:Int):x%p%p=x%p:=Int.emod_emod_of_dvd _ (Int.dvd_refl p)

theorem one_pow' (n:Nat):(1:Int)^n=1:=by
 induction n with
 |zero=>rfl
 |succ n ih=>rw[Int.pow_succ,ih];rfl

theorem pow_one_emod (a p:Int) (hp:2≤p) (h:a%p=1) (n:Nat):a^n%p=1:=by
 rw[←pow_emod,h,one_pow',one_emod p hp]

theorem period (g p:Int) (q:Nat) (hp:2≤p) (h:g^q%p=1) (a:Nat):g^a%p=g^(a%q)%p:=by
 have e:g^a=(g^q)^(a/q)*g^(a%q):=by
  rw[←Int.pow_mul,←Int.pow_add,Nat.div_add_mod]
 rw[e,Int.mul_emod,pow_one_emod _ p hp h,Int.one_mul,emod_two]

theorem pow_pow_emod (g p:Int) (a b:Nat):(g^a%p)^b%p=g^(a*b)%p:=by
 rw[pow_emod,←Int.pow_mul]

theorem equation (g p:Int) (q x u v k:Nat) (hp:2≤p) (h:g^q%p=1) (e:(u+x*v)%q=k%q):(g^u%p)*((g^x%p)^v%p)%p=g^k%p:=by
 rw[pow_pow_emod,←Int.mul_emod,←Int.pow_add,period g p q hp h,e,←period g p q hp h]

theorem prime_gcd (q a:Nat) (h:∀d:Nat,2≤d→d<q→q%d≠0) (ha:1≤a) (haq:a<q):Nat.gcd a q=1:=by
 have h1:=Nat.gcd_dvd_left a q
 have h2:=Nat.gcd_dvd_right a q
 have h3:=Nat.le_of_dvd (by omega) h1
 have h4:=Nat.gcd_pos_of_pos_left q (show 0<a by omega)
 by_cases h5:Nat.gcd a q=1
 ·exact h5
 ·exact absurd (Nat.mod_eq_zero_of_dvd h2) (h _ (by omega) (by omega))

end Math
end Go.Proofs.YtdcpjicgehdmfaaGreatDoor
