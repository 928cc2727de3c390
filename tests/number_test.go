package tests

import (
	"hash/crc32"
	"math"
	"math/big"
	"strconv"
	"strings"
	"testing"

	"loop.example/g00211/impl"
)

var edgeNumbers = []int{
	math.MinInt, math.MinInt + 1, -4294967296, -impl.MaxPrime - 1, -impl.MaxPrime, -8, -7, -2, -1,
	0, 1, 2, 3, 7, 12, 65536, 999999999, 1000000000, impl.MaxPrime - 1, impl.MaxPrime,
	impl.MaxPrime + 1, 4294967296, math.MaxInt - 1, math.MaxInt,
}

var measures = []int{2, 3, 4, 6, 7, 12, 97, 1000, 10007, 46341, 65536, 240169, 1 << 30, impl.MaxPrime - 1, impl.MaxPrime}

var noMeasures = []int{math.MinInt, -impl.MaxPrime, -7, -2, -1, 0, 1, impl.MaxPrime + 1, 4294967296, 4294967303, math.MaxInt}

var exponents = []int{0, 1, 2, 3, 5, 31, 32, 255, 65537, 1 << 29, 1073741823, impl.MaxPrime - 1, impl.MaxPrime}

var noExponents = []int{math.MinInt, -impl.MaxPrime, -1, impl.MaxPrime + 1, 4294967296, math.MaxInt}

func bigMod(x *big.Int, m int) int {
	return int(new(big.Int).Mod(x, big.NewInt(int64(m))).Int64())
}

func bigOf(x int) *big.Int {
	return big.NewInt(int64(x))
}

func bigPower(a, n, m int) int {
	return int(new(big.Int).Exp(bigOf(bigMod(bigOf(a), m)), bigOf(n), bigOf(m)).Int64())
}

func TestMod(t *testing.T) {
	for _, m := range measures {
		for _, x := range edgeNumbers {
			if got, want := impl.Mod(x, m), bigMod(bigOf(x), m); got != want {
				t.Errorf("Mod(%d, %d) = %d, want %d", x, m, got, want)
			}
		}
		for _, x := range []int{-m - 1, -m, -m + 1, m - 1, m, m + 1} {
			if got, want := impl.Mod(x, m), bigMod(bigOf(x), m); got != want {
				t.Errorf("Mod(%d, %d) = %d, want %d", x, m, got, want)
			}
		}
	}
}

func TestMulMod(t *testing.T) {
	for _, m := range measures {
		for _, a := range edgeNumbers {
			for _, b := range edgeNumbers {
				want := bigMod(new(big.Int).Mul(bigOf(a), bigOf(b)), m)
				if got := impl.MulMod(a, b, m); got != want {
					t.Errorf("MulMod(%d, %d, %d) = %d, want %d", a, b, m, got, want)
				}
			}
		}
		if got := impl.MulMod(m-1, m-1, m); got != 1 {
			t.Errorf("MulMod of two greatest remainders by %d = %d, want 1", m, got)
		}
	}
}

func TestPowMod(t *testing.T) {
	for _, m := range measures {
		for _, a := range edgeNumbers {
			for _, n := range exponents {
				if got, want := impl.PowMod(a, n, m), bigPower(a, n, m); got != want {
					t.Errorf("PowMod(%d, %d, %d) = %d, want %d", a, n, m, got, want)
				}
			}
		}
	}
}

func TestPowModByRepeatedProducts(t *testing.T) {
	for m := 2; m <= 30; m++ {
		for a := -m; a <= m; a++ {
			want := 1
			for n := 0; n <= 40; n++ {
				if got := impl.PowMod(a, n, m); got != want {
					t.Fatalf("PowMod(%d, %d, %d) = %d, want %d", a, n, m, got, want)
				}
				want = impl.MulMod(want, a, m)
			}
		}
	}
}

func TestPowersOfASumAreProductsOfPowers(t *testing.T) {
	for _, m := range measures {
		for _, a := range edgeNumbers {
			for _, i := range exponents {
				for _, j := range exponents {
					if i+j > impl.MaxPrime {
						continue
					}
					product := impl.MulMod(impl.PowMod(a, i, m), impl.PowMod(a, j, m), m)
					if got := impl.PowMod(a, i+j, m); got != product {
						t.Errorf("%d to %d + %d by %d: %d, but the product is %d", a, i, j, m, got, product)
					}
				}
			}
		}
	}
}

func TestRemaindersRefuseWhatIsNoMeasure(t *testing.T) {
	for _, m := range noMeasures {
		for _, x := range edgeNumbers {
			if impl.Mod(x, m) != -1 || impl.MulMod(x, 2, m) != -1 || impl.MulMod(2, x, m) != -1 || impl.PowMod(x, 2, m) != -1 {
				t.Errorf("%d by %d is not refused", x, m)
			}
			if got, ok := impl.Inverse(x, m); got != 0 || ok {
				t.Errorf("Inverse(%d, %d) = %d, %t", x, m, got, ok)
			}
		}
		for _, s := range []string{"", "a", strings.Repeat("z", 5000)} {
			if got := impl.Fold(s, m); got != -1 {
				t.Errorf("Fold of %d bytes by %d = %d", len(s), m, got)
			}
		}
	}
}

func TestPowModRefusesExponents(t *testing.T) {
	for _, n := range noExponents {
		for _, m := range append(append([]int{}, measures...), noMeasures...) {
			if got := impl.PowMod(2, n, m); got != -1 {
				t.Errorf("PowMod(2, %d, %d) = %d", n, m, got)
			}
		}
	}
}

func TestGcdOfSmallNumbers(t *testing.T) {
	for a := 0; a <= 60; a++ {
		for b := 0; b <= 60; b++ {
			want := 0
			for d := 1; d <= 60; d++ {
				if (a != 0 || b != 0) && a%d == 0 && b%d == 0 {
					want = d
				}
			}
			if got := impl.Gcd(a, b); got != want {
				t.Errorf("Gcd(%d, %d) = %d, want %d", a, b, got, want)
			}
		}
	}
}

func TestGcdAtItsBounds(t *testing.T) {
	for _, a := range edgeNumbers {
		for _, b := range edgeNumbers {
			want := -1
			if a >= 0 && a <= impl.MaxPrime && b >= 0 && b <= impl.MaxPrime {
				want = int(new(big.Int).GCD(nil, nil, bigOf(a), bigOf(b)).Int64())
			}
			if got := impl.Gcd(a, b); got != want {
				t.Errorf("Gcd(%d, %d) = %d, want %d", a, b, got, want)
			}
		}
	}
}

func TestThereIsAnInverseJustWhenNoNumberDividesBoth(t *testing.T) {
	for _, m := range measures {
		numbers := append([]int{m - 1, m, m + 1, m / 2, -m, -m + 1}, edgeNumbers...)
		for _, a := range numbers {
			checkInverse(t, a, m)
		}
	}
	for m := 2; m <= 80; m++ {
		for a := -2 * m; a <= 2*m; a++ {
			checkInverse(t, a, m)
		}
	}
}

func checkInverse(t *testing.T, a, m int) {
	t.Helper()
	x, ok := impl.Inverse(a, m)
	if want := impl.Gcd(impl.Mod(a, m), m) == 1; ok != want {
		t.Errorf("Inverse(%d, %d) is there: %t, want %t", a, m, ok, want)
	}
	if ok && (x < 0 || x >= m || impl.MulMod(a, x, m) != impl.Mod(1, m)) {
		t.Errorf("Inverse(%d, %d) = %d", a, m, x)
	}
	if !ok && x != 0 {
		t.Errorf("Inverse(%d, %d) = %d beside a false", a, m, x)
	}
}

func TestInverseOfSmallNumbersBySearch(t *testing.T) {
	for m := 2; m <= 40; m++ {
		for a := 0; a < m; a++ {
			want, there := 0, false
			for x := 0; x < m; x++ {
				if a*x%m == 1 {
					want, there = x, true
				}
			}
			if got, ok := impl.Inverse(a, m); got != want || ok != there {
				t.Errorf("Inverse(%d, %d) = %d, %t, want %d, %t", a, m, got, ok, want, there)
			}
		}
	}
}

func TestPrime(t *testing.T) {
	const bound = 30000
	crossed := make([]bool, bound)
	for n := 2; n < bound; n++ {
		if got := impl.Prime(n); got == crossed[n] {
			t.Errorf("Prime(%d) = %t", n, got)
		}
		for k := 2 * n; k < bound; k += n {
			crossed[k] = true
		}
	}
	for n := impl.MaxPrime - 300; n <= impl.MaxPrime; n++ {
		if got, want := impl.Prime(n), bigOf(n).ProbablyPrime(0); got != want {
			t.Errorf("Prime(%d) = %t", n, got)
		}
	}
	for _, n := range []int{46337 * 46337, 46327 * 46337, 46349 * 46307} {
		if impl.Prime(n) {
			t.Errorf("Prime(%d) = true", n)
		}
	}
}

func TestPrimeBeyondItsBounds(t *testing.T) {
	// 2147483659 and 4294967311 are primes, but above MaxPrime.
	for _, n := range []int{math.MinInt, -impl.MaxPrime, -7, -3, -2, -1, 0, 1, impl.MaxPrime + 1, 2147483659, 4294967311, math.MaxInt} {
		if impl.Prime(n) {
			t.Errorf("Prime(%d) = true", n)
		}
	}
}

func sampleTexts() []string {
	all := make([]byte, 256)
	for i := range all {
		all[i] = byte(i)
	}
	return []string{
		"", "a", "\x00", "\xff", "\x00\x00\x00\x00", "123456789", "leg 10 5 1 3 1 2\n", "\xc3\xa9\xff\xfe",
		string(all), strings.Repeat("\x00", 300), strings.Repeat("\xff", 300),
	}
}

func TestCheckSum(t *testing.T) {
	texts := append(sampleTexts(), strings.Repeat("throughline ", 20000))
	for _, s := range texts {
		if got, want := impl.CheckSum(s), crc32.ChecksumIEEE([]byte(s)); got != want {
			t.Errorf("CheckSum of %d bytes = %d, want %d", len(s), got, want)
		}
	}
}

func TestATextWithOneByteChangedHasAnotherSum(t *testing.T) {
	for _, s := range sampleTexts() {
		sum := impl.CheckSum(s)
		for _, i := range placesIn(s) {
			for change := 1; change < 256; change++ {
				other := []byte(s)
				other[i] ^= byte(change)
				if impl.CheckSum(string(other)) == sum {
					t.Fatalf("%q and %q have the same sum", s, other)
				}
			}
		}
	}
}

func placesIn(s string) []int {
	var places []int
	for i := range len(s) {
		if i < 20 || i >= len(s)-20 {
			places = append(places, i)
		}
	}
	return places
}

func bigFold(s string, m int) int {
	x := big.NewInt(1)
	for i := range len(s) {
		x.Mul(x, big.NewInt(257))
		x.Add(x, big.NewInt(int64(s[i])+1))
		x.Mod(x, big.NewInt(2147483647))
	}
	return bigMod(x, m)
}

func TestFold(t *testing.T) {
	texts := append(sampleTexts(), strings.Repeat("x", 4999), strings.Repeat("\xff", 5000), strings.Repeat("\x00", 5000))
	for _, m := range measures {
		for _, s := range texts {
			if got, want := impl.Fold(s, m), bigFold(s, m); got != want {
				t.Errorf("Fold of %d bytes by %d = %d, want %d", len(s), m, got, want)
			}
		}
		for _, length := range []int{5001, 5002, 20000} {
			if got := impl.Fold(strings.Repeat("x", length), m); got != -1 {
				t.Errorf("Fold of %d bytes by %d = %d, want -1", length, m, got)
			}
		}
	}
}

// 257 times the fold of each of these is so near below the measure that one
// more byte passes it: a sum that is not taken by the measure shows only there.
func TestFoldWhereTheLastSumPassesTheMeasure(t *testing.T) {
	for _, s := range []string{"\x78\x8c\x73\x82", "\xf6\x12\xec\x05", "\x17\x14\x25\x0c", "\xfa\x03\x02\xf5", "\x7a\x84\x7f\x79"} {
		for last := range 256 {
			text := s + string([]byte{byte(last)})
			for _, m := range []int{1000, impl.MaxPrime - 1, impl.MaxPrime} {
				if got, want := impl.Fold(text, m), bigFold(text, m); got != want {
					t.Errorf("Fold(%q, %d) = %d, want %d", text, m, got, want)
				}
			}
		}
	}
	if got := impl.Fold("\x78\x8c\x73\x82\x00", 1000); got != 0 {
		t.Errorf("Fold up to just the measure, by 1000 = %d, want 0", got)
	}
}

func TestFoldTellsNoughtsAhead(t *testing.T) {
	seen := map[int]int{}
	for length := range 100 {
		sum := impl.Fold(strings.Repeat("\x00", length), impl.MaxPrime)
		if other, ok := seen[sum]; ok {
			t.Errorf("%d and %d noughts are folded alike", other, length)
		}
		seen[sum] = length
	}
}

func TestWordText(t *testing.T) {
	cases := map[uint32]string{
		0:          "\x00\x00\x00\x00",
		1:          "\x00\x00\x00\x01",
		255:        "\x00\x00\x00\xff",
		256:        "\x00\x00\x01\x00",
		16909060:   "\x01\x02\x03\x04",
		2147483648: "\x80\x00\x00\x00",
		4042322160: "\xf0\xf0\xf0\xf0",
		4294967295: "\xff\xff\xff\xff",
	}
	for x, want := range cases {
		if got := impl.WordText(x); got != want {
			t.Errorf("WordText(%d) = %q, want %q", x, got, want)
		}
	}
}

func TestDecText(t *testing.T) {
	cases := map[int]string{
		0: "0", 7: "7", 10: "10", -1: "-1", -10: "-10", 1234567890: "1234567890",
		math.MaxInt: "9223372036854775807",
		math.MinInt: "-9223372036854775808",
	}
	for n, want := range cases {
		if got := impl.DecText(n); got != want {
			t.Errorf("DecText(%d) = %q, want %q", n, got, want)
		}
	}
}

func TestReadDecReadsWhatDecTextTells(t *testing.T) {
	numbers := []int{0, 1, 9, 10, 99, 100, 101, 5000, 99999999, 100000000, 123456789, 999999998, 999999999}
	for n := range 2000 {
		numbers = append(numbers, n)
	}
	for _, n := range numbers {
		if got, ok := impl.ReadDec(impl.DecText(n)); got != n || !ok {
			t.Errorf("ReadDec(%q) = %d, %t", impl.DecText(n), got, ok)
		}
	}
	for _, n := range edgeNumbers {
		want := n >= 0 && n <= 999999999
		if got, ok := impl.ReadDec(impl.DecText(n)); ok != want || !ok && got != 0 {
			t.Errorf("ReadDec(%q) = %d, %t", impl.DecText(n), got, ok)
		}
	}
}

func TestReadDecRefusesTextsThatAreNoNumbers(t *testing.T) {
	texts := []string{
		"", " ", "-", "+", "-0", "+0", "+1", "-1", "00", "01", "007", "0000000000", "0000000001", "000000001",
		" 1", "1 ", "1\n", "\n", "1\x00", "\x001", "1a", "a1", "1_0", "0x1", "1e3", "1.0", "1,000", "/", ":", "1/", "1:",
		"\xd9\xa1", "\xff", "1000000000", "9999999999", "4294967296", "9223372036854775808", "18446744073709551616",
		strings.Repeat("9", 100), strings.Repeat("0", 5000),
	}
	for _, s := range texts {
		if got, ok := impl.ReadDec(s); got != 0 || ok {
			t.Errorf("ReadDec(%q) = %d, %t", s, got, ok)
		}
	}
}

func TestReadDecOfEveryShortText(t *testing.T) {
	for first := range 256 {
		checkReadDec(t, string([]byte{byte(first)}))
		for second := range 256 {
			checkReadDec(t, string([]byte{byte(first), byte(second)}))
		}
	}
}

func checkReadDec(t *testing.T, s string) {
	t.Helper()
	want, there := 0, false
	if n, err := strconv.Atoi(s); err == nil && n >= 0 && strconv.Itoa(n) == s {
		want, there = n, true
	}
	if got, ok := impl.ReadDec(s); got != want || ok != there {
		t.Errorf("ReadDec(%q) = %d, %t, want %d, %t", s, got, ok, want, there)
	}
}

func TestNumbersAnswerAtAnyArguments(t *testing.T) {
	for _, m := range edgeNumbers {
		inRange := func(what string, x int) {
			t.Helper()
			if x < -1 || x >= 0 && x >= m {
				t.Errorf("%s by %d = %d", what, m, x)
			}
		}
		for _, a := range edgeNumbers {
			inRange("Mod", impl.Mod(a, m))
			for _, b := range edgeNumbers {
				inRange("MulMod", impl.MulMod(a, b, m))
				inRange("PowMod", impl.PowMod(a, b, m))
			}
		}
		for _, s := range sampleTexts() {
			inRange("Fold", impl.Fold(s, m))
		}
	}
}
