package impl

import "strconv"

const MaxPrime = 2147483647

const (
	maxFolded   = 5000
	maxDigits   = 9
	turnedPoly  = 3988292384
	allBitsWord = 4294967295
)

// residue is a remainder by a measure. A measure has at most 31 bits,
// so that products and sums of two residues never wrap round.
type residue uint64

func (r residue) plus(s residue, m residue) residue {
	return (r + s) % m
}

func (r residue) minus(s residue, m residue) residue {
	return (r + m - s) % m
}

func (r residue) times(s residue, m residue) residue {
	return r * s % m
}

func (r residue) power(n uint64, m residue) residue {
	result := residue(1)
	for square := r; n != 0; n >>= 1 {
		if n&1 == 1 {
			result = result.times(square, m)
		}
		square = square.times(square, m)
	}
	return result
}

// inverse goes down as Euclid does; at each step the coefficient times r
// is, by the measure, the number it stands beside.
func (r residue) inverse(m residue) (residue, bool) {
	high, low := m, r
	highTimes, lowTimes := residue(0), residue(1)
	for low != 0 {
		share := high / low
		high, low = low, high%low
		highTimes, lowTimes = lowTimes, highTimes.minus(share.times(lowTimes, m), m)
	}
	if high != 1 {
		return 0, false
	}
	return highTimes, true
}

func isMeasure(m int) bool {
	return m >= 2 && m <= MaxPrime
}

func upToMaxPrime(n int) bool {
	return n >= 0 && n <= MaxPrime
}

// residueOf wants a measure.
func residueOf(x int, m int) residue {
	rest := x % m
	if rest < 0 {
		rest += m
	}
	return residue(rest)
}

func Mod(x int, m int) int {
	if !isMeasure(m) {
		return -1
	}
	return int(residueOf(x, m))
}

func MulMod(a int, b int, m int) int {
	if !isMeasure(m) {
		return -1
	}
	return int(residueOf(a, m).times(residueOf(b, m), residue(m)))
}

func PowMod(a int, n int, m int) int {
	if !isMeasure(m) || !upToMaxPrime(n) {
		return -1
	}
	return int(residueOf(a, m).power(uint64(n), residue(m)))
}

func Gcd(a int, b int) int {
	if !upToMaxPrime(a) || !upToMaxPrime(b) {
		return -1
	}
	for b != 0 {
		a, b = b, a%b
	}
	return a
}

func Inverse(a int, m int) (int, bool) {
	if !isMeasure(m) {
		return 0, false
	}
	x, ok := residueOf(a, m).inverse(residue(m))
	return int(x), ok
}

func Prime(n int) bool {
	if !isMeasure(n) {
		return false
	}
	if n%2 == 0 {
		return n == 2
	}
	for d := 3; d*d <= n; d += 2 {
		if n%d == 0 {
			return false
		}
	}
	return true
}

func CheckSum(s string) uint32 {
	sum := uint32(allBitsWord)
	for i := range len(s) {
		sum = sumOfByte(sum ^ uint32(s[i]))
	}
	return sum ^ allBitsWord
}

func sumOfByte(sum uint32) uint32 {
	for range 8 {
		odd := sum&1 == 1
		sum >>= 1
		if odd {
			sum ^= turnedPoly
		}
	}
	return sum
}

func Fold(s string, m int) int {
	if !isMeasure(m) || len(s) > maxFolded {
		return -1
	}
	folded := residue(1)
	for i := range len(s) {
		folded = folded.times(257, MaxPrime).plus(residue(s[i])+1, MaxPrime)
	}
	return Mod(int(folded), m)
}

func WordText(x uint32) string {
	return string([]byte{byte(x >> 24), byte(x >> 16), byte(x >> 8), byte(x)})
}

func DecText(n int) string {
	return strconv.Itoa(n)
}

func ReadDec(s string) (int, bool) {
	if len(s) == 0 || len(s) > maxDigits || len(s) > 1 && s[0] == '0' {
		return 0, false
	}
	n := 0
	for i := range len(s) {
		if s[i] < '0' || s[i] > '9' {
			return 0, false
		}
		n = 10*n + int(s[i]-'0')
	}
	return n, true
}
