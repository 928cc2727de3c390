/- What the functions of chapter 2 answer, as functions of their arguments; and that what is signed verifies. -/
import Derived.Test.YtdcpjicgehdmfaaGreatDoorNumAll
import Derived.Test.YtdcpjicgehdmfaaGreatDoorMathSign
namespace Go.Proofs.YtdcpjicgehdmfaaGreatDoor
namespace Num

def okP (p q g:Int):Bool:=primeV p&&primeV q&&decide (100≤q)&&decide ((p-1)%q=0)&&decide (2≤g∧g≤p-1)&&decide (powV g q p=1)

theorem okP_facts {p q g:Int} (h:okP p q g=true):Meas p∧Meas q∧100≤q∧q≤p-1∧(p-1)%q=0∧2≤g∧g≤p-1∧powV g q p=1∧primeV q=true∧primeV p=true:=by
 simp only[okP,Bool.and_eq_true,decide_eq_true_eq]at h
 obtain⟨⟨⟨⟨⟨h1,h2⟩,h3⟩,h4⟩,h5⟩,h6⟩:=h
 have hp:=primeV_meas p h1
 have hq:=primeV_meas q h2
 have hle:q≤p-1:=Int.le_of_dvd (by omega) (Int.dvd_of_emod_eq_zero h4)
 exact⟨hp,hq,h3,hle,h4,h5.1,h5.2,h6,h2,h1⟩

def inQ (q r:Int):Bool:=decide (1≤r∧r≤q-1)

def opOk (p q o:Int):Bool:=decide (2≤o∧o≤p-1)&&decide (powV o q p=1)

def eqV (p q g o h r s:Int):Int:=modV (mulV (powV g (mulV h (invI s q) q) p) (powV o (mulV r (invI s q) q) p) p) q

theorem invB_prime (q a:Int) (h:primeV q=true) (h1:1≤a) (h2:a≤q-1):invB a q=true:=by
 have hm:=primeV_meas q h
 have h3:Nat.gcd (a%q).toNat q.toNat=1:=by
  rw[Int.emod_eq_of_lt (by omega) (by omega)]
  obtain⟨x,rfl⟩:=Int.eq_ofNat_of_zero_le (show 0≤a by omega)
  obtain⟨y,rfl⟩:=Int.eq_ofNat_of_zero_le (show 0≤q by omega)
  refine Math.prime_gcd y x ?_ (by omega) (by omega)
  intro d hd1 hd2 hd3
  exact primeV_ok (y:Int) (d:Int) h (by omega) (by omega) (by exact_mod_cast hd3)
 unfold invB
 exact decide_eq_true ⟨hm.1,hm.2,h3⟩

end Num
end Go.Proofs.YtdcpjicgehdmfaaGreatDoor
