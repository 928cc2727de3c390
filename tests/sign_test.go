package tests

import (
	"math"
	"math/big"
	"slices"
	"strings"
	"testing"

	"loop.example/g00211/impl"
)

// In the second group 2 itself has the order Q; the others have the least and
// the greatest P and Q, or a P far above its Q.
var groups = []impl.Params{
	{P: 1213, Q: 101, G: 457},
	{P: 263, Q: 131, G: 2},
	{P: 607, Q: 101, G: powerOf(3, 6, 607)},
	{P: impl.MaxPrime, Q: 151, G: 556613938},
	{P: impl.MaxPrime, Q: 331, G: 272122089},
	{P: 2147483579, Q: 1073741789, G: 3},
}

var noGroups = []impl.Params{
	{},
	{P: 389, Q: 97, G: 16},
	{P: 101, Q: 100, G: 2},
	{P: 727, Q: 121, G: 64},
	{P: 25878, Q: 113, G: 343},
	{P: 1213, Q: 103, G: 457},
	{P: 1213, Q: 1213, G: 457},
	{P: 1213, Q: -101, G: 457},
	{P: -1213, Q: 101, G: 457},
	{P: 1213, Q: 101, G: -457},
	{P: 1213, Q: 101, G: 0},
	{P: 1213, Q: 101, G: 1},
	{P: 1213, Q: 101, G: 2},
	{P: 1213, Q: 101, G: 1212},
	{P: 1213, Q: 101, G: 1213},
	{P: 1213, Q: 101, G: 1214},
	{P: 1213, Q: 101, G: 1213 + 457},
	{P: 1213, Q: 101, G: 457 - 1213},
	{P: 1215, Q: 101, G: 457},
	{P: 1213, Q: 0, G: 457},
	{P: 1213, Q: 1, G: 1},
	{P: 2147483659, Q: 101, G: 2},
	{P: 1, Q: 101, G: 2},
	{P: math.MinInt, Q: 101, G: 2},
	{P: math.MaxInt, Q: math.MaxInt, G: math.MaxInt},
}

func powerOf(a, n, m int) int {
	return int(new(big.Int).Exp(bigOf(a), bigOf(n), bigOf(m)).Int64())
}

func signTexts() []string {
	return append(sampleTexts(), "abc", "abd", strings.Repeat("t", 5000))
}

// surePrime looks for a divisor where that is the shorter way.
func surePrime(n int) bool {
	if n < 2 || n > 2147483647 {
		return false
	}
	if n > 100000 {
		return bigOf(n).ProbablyPrime(0)
	}
	for d := 2; d*d <= n; d++ {
		if n%d == 0 {
			return false
		}
	}
	return true
}

func rightParams(p impl.Params) bool {
	return p.Q >= 100 && (p.P-1)%p.Q == 0 && surePrime(p.P) && surePrime(p.Q) &&
		p.G >= 2 && p.G <= p.P-1 && powerOf(p.G, p.Q, p.P) == 1
}

func within(x, low, high int) bool {
	return x >= low && x <= high
}

func wantMark(p impl.Params, secret int, text string, k int) (impl.Mark, bool) {
	if !rightParams(p) || !within(secret, 1, p.Q-1) || !within(k, 1, p.Q-1) || len(text) > 5000 {
		return impl.Mark{}, false
	}
	r := powerOf(p.G, k, p.P) % p.Q
	sum := new(big.Int).Mul(bigOf(secret), bigOf(r))
	sum.Add(sum, bigOf(bigFold(text, p.Q)))
	sum.Mul(sum, new(big.Int).ModInverse(bigOf(k), bigOf(p.Q)))
	s := bigMod(sum, p.Q)
	if r == 0 || s == 0 {
		return impl.Mark{}, false
	}
	return impl.Mark{R: r, S: s}, true
}

func wantVerify(p impl.Params, open int, text string, m impl.Mark) bool {
	if !rightParams(p) || !within(open, 2, p.P-1) || powerOf(open, p.Q, p.P) != 1 || len(text) > 5000 {
		return false
	}
	if !within(m.R, 1, p.Q-1) || !within(m.S, 1, p.Q-1) {
		return false
	}
	w := new(big.Int).ModInverse(bigOf(m.S), bigOf(p.Q))
	u := bigMod(new(big.Int).Mul(bigOf(bigFold(text, p.Q)), w), p.Q)
	v := bigMod(new(big.Int).Mul(bigOf(m.R), w), p.Q)
	left := bigMod(new(big.Int).Mul(bigOf(powerOf(p.G, u, p.P)), bigOf(powerOf(open, v, p.P))), p.P) % p.Q
	return left == m.R
}

func checkSignOnce(t *testing.T, p impl.Params, secret int, text string, k int) {
	t.Helper()
	want, will := wantMark(p, secret, text, k)
	if got, ok := impl.SignOnce(p, secret, text, k); got != want || ok != will {
		t.Errorf("SignOnce(%v, %d, %d bytes, %d) = %v, %t, want %v, %t", p, secret, len(text), k, got, ok, want, will)
	}
}

func checkVerify(t *testing.T, p impl.Params, open int, text string, m impl.Mark) {
	t.Helper()
	if got, want := impl.Verify(p, open, text, m), wantVerify(p, open, text, m); got != want {
		t.Errorf("Verify(%v, %d, %d bytes, %v) = %t", p, open, len(text), m, got)
	}
}

func checkSign(t *testing.T, p impl.Params, secret int, text string, draws []int, want impl.Mark, at int) {
	t.Helper()
	got, i, ok := impl.Sign(p, secret, text, draws)
	if got != want || i != at || ok != (at >= 0) {
		t.Errorf("Sign(%v, %d, %d bytes, %v) = %v, %d, %t, want %v, %d", p, secret, len(text), draws, got, i, ok, want, at)
	}
}

func TestParamsOk(t *testing.T) {
	for _, p := range groups {
		if !impl.ParamsOk(p) {
			t.Errorf("ParamsOk(%v) = false", p)
		}
	}
	for _, p := range noGroups {
		if impl.ParamsOk(p) {
			t.Errorf("ParamsOk(%v) = true", p)
		}
	}
}

func TestParamsOkOfEverySmallG(t *testing.T) {
	for _, p := range groups[:3] {
		for g := -2; g <= p.P+2; g++ {
			q := impl.Params{P: p.P, Q: p.Q, G: g}
			if got, want := impl.ParamsOk(q), rightParams(q); got != want {
				t.Errorf("ParamsOk(%v) = %t", q, got)
			}
		}
	}
}

func TestParamsOkOfNeighbours(t *testing.T) {
	for q := 90; q <= 140; q++ {
		for p := q; p <= 9*q; p++ {
			for g := 2; g < 20; g++ {
				x := impl.Params{P: p, Q: q, G: g}
				if got, want := impl.ParamsOk(x), rightParams(x); got != want {
					t.Errorf("ParamsOk(%v) = %t", x, got)
				}
			}
		}
	}
}

func TestOpenKey(t *testing.T) {
	for _, p := range groups {
		for _, secret := range []int{1, 2, 7, 50, p.Q - 2, p.Q - 1} {
			want := powerOf(p.G, secret, p.P)
			if got, ok := impl.OpenKey(p, secret); got != want || !ok {
				t.Errorf("OpenKey(%v, %d) = %d, %t, want %d", p, secret, got, ok, want)
			}
		}
		for _, secret := range []int{math.MinInt, -p.Q + 1, -1, 0, p.Q, p.Q + 1, p.Q + 7, math.MaxInt} {
			if got, ok := impl.OpenKey(p, secret); got != 0 || ok {
				t.Errorf("OpenKey(%v, %d) = %d, %t", p, secret, got, ok)
			}
		}
	}
	for _, p := range noGroups {
		if got, ok := impl.OpenKey(p, 1); got != 0 || ok {
			t.Errorf("OpenKey(%v, 1) = %d, %t", p, got, ok)
		}
	}
}

func TestSignOnceByEveryDraw(t *testing.T) {
	noughts := [2]int{}
	for _, p := range groups[:3] {
		for _, text := range []string{"", "abc", "\xff\x00"} {
			for _, secret := range []int{1, 2, 7, p.Q - 1} {
				for k := -1; k <= p.Q+1; k++ {
					checkSignOnce(t, p, secret, text, k)
					if !within(k, 1, p.Q-1) {
						continue
					}
					r := powerOf(p.G, k, p.P) % p.Q
					if r == 0 {
						noughts[0]++
					} else if (bigFold(text, p.Q)+secret*r)%p.Q == 0 {
						noughts[1]++
					}
				}
			}
		}
	}
	if noughts[0] == 0 || noughts[1] == 0 {
		t.Errorf("draws with R of 0 and with S of 0 that were tried: %v", noughts)
	}
}

func TestSignOnceAtItsBounds(t *testing.T) {
	for _, p := range groups {
		numbers := []int{math.MinInt, -1, 0, 1, 2, 3, p.Q / 2, p.Q - 2, p.Q - 1, p.Q, p.Q + 1, p.P, math.MaxInt}
		for _, secret := range numbers {
			for _, k := range numbers {
				checkSignOnce(t, p, secret, "abc", k)
			}
		}
		for _, length := range []int{4999, 5000, 5001, 20000} {
			for k := 1; k < 6; k++ {
				checkSignOnce(t, p, 7, strings.Repeat("x", length), k)
			}
		}
	}
	for _, p := range noGroups {
		checkSignOnce(t, p, 1, "abc", 1)
	}
}

func TestWhatIsSignedVerifiesUnderItsOpenKey(t *testing.T) {
	signed := 0
	for _, p := range groups {
		for _, secret := range []int{1, 2, 7, p.Q / 3, p.Q - 1} {
			open, ok := impl.OpenKey(p, secret)
			if !ok {
				t.Fatalf("no open key of %v, %d", p, secret)
			}
			for _, text := range signTexts() {
				for _, k := range []int{1, 2, 5, 77, p.Q - 2, p.Q - 1} {
					m, ok := impl.SignOnce(p, secret, text, k)
					if !ok {
						continue
					}
					signed++
					if !impl.Verify(p, open, text, m) {
						t.Errorf("%v by %d, %d, %d does not verify", m, secret, k, len(text))
					}
				}
			}
		}
	}
	if signed < 500 {
		t.Errorf("only %d were signed", signed)
	}
}

func TestWhatVerifiesDoesSoByTheEquation(t *testing.T) {
	p := groups[0]
	for _, text := range []string{"abc", ""} {
		for _, open := range []int{115, p.G} {
			for r := -1; r <= p.Q+1; r++ {
				for s := -1; s <= p.Q+1; s++ {
					checkVerify(t, p, open, text, impl.Mark{R: r, S: s})
				}
			}
		}
	}
}

func TestOneThingChanged(t *testing.T) {
	for _, p := range groups {
		open, _ := impl.OpenKey(p, 7)
		m, _, ok := impl.Sign(p, 7, "abc", []int{5, 6, 7, 8})
		if !ok || !impl.Verify(p, open, "abc", m) {
			t.Fatalf("%v signs nothing", p)
		}
		for _, d := range []int{-p.P, -p.Q, -3, -2, -1, 1, 2, 3, p.Q, p.P, math.MinInt, math.MaxInt} {
			checkVerify(t, p, open, "abc", impl.Mark{R: m.R + d, S: m.S})
			checkVerify(t, p, open, "abc", impl.Mark{R: m.R, S: m.S + d})
			checkVerify(t, p, open+d, "abc", m)
			checkVerify(t, impl.Params{P: p.P + d, Q: p.Q, G: p.G}, open, "abc", m)
			checkVerify(t, impl.Params{P: p.P, Q: p.Q + d, G: p.G}, open, "abc", m)
			checkVerify(t, impl.Params{P: p.P, Q: p.Q, G: p.G + d}, open, "abc", m)
		}
		for _, text := range append(signTexts(), "abd", "bbc", "ab", "abcd", "\x00abc", strings.Repeat("x", 5001)) {
			checkVerify(t, p, open, text, m)
		}
		for n := range 200 {
			checkVerify(t, p, powerOf(p.G, n, p.P), "abc", m)
		}
		for _, bound := range []int{0, 1, p.Q - 1, p.Q} {
			checkVerify(t, p, open, "abc", impl.Mark{R: bound, S: m.S})
			checkVerify(t, p, open, "abc", impl.Mark{R: m.R, S: bound})
		}
	}
}

// Of these marks only one thing at a time is out of its bounds, and the
// equation by itself would say yes.
func TestVerifyKeepsItsBoundsWhereTheEquationSaysYes(t *testing.T) {
	p := groups[0]
	open, _ := impl.OpenKey(p, 7)
	m, _ := impl.SignOnce(p, 7, "abc", 5)
	if !impl.Verify(p, open, "abc", m) {
		t.Fatal("the mark itself does not verify")
	}
	for _, n := range []int{-1, 1, 2} {
		if impl.Verify(p, open, "abc", impl.Mark{R: m.R, S: m.S + n*p.Q}) {
			t.Errorf("S of %d is taken", m.S+n*p.Q)
		}
		if impl.Verify(p, open, "abc", impl.Mark{R: m.R + n*p.Q, S: m.S}) {
			t.Errorf("R of %d is taken", m.R+n*p.Q)
		}
		if impl.Verify(p, open+n*p.P, "abc", m) {
			t.Errorf("open of %d is taken", open+n*p.P)
		}
		if impl.Verify(impl.Params{P: p.P, Q: p.Q, G: p.G + n*p.P}, open, "abc", m) {
			t.Errorf("G of %d is taken", p.G+n*p.P)
		}
	}
	for k := 1; k < p.Q; k++ {
		r := powerOf(p.G, k, p.P) % p.Q
		one := impl.Mark{R: r, S: impl.MulMod(bigFold("abc", p.Q), int(new(big.Int).ModInverse(bigOf(k), bigOf(p.Q)).Int64()), p.Q)}
		if impl.Verify(p, 1, "abc", one) {
			t.Errorf("open of 1 is taken with %v", one)
		}
	}
}

func TestVerifyAtTheBoundsOfOpen(t *testing.T) {
	for _, p := range groups {
		for _, open := range []int{math.MinInt, -1, 0, 1, 2, 3, p.P - 2, p.P - 1, p.P, p.P + 1, math.MaxInt} {
			for r := 1; r < 40; r++ {
				checkVerify(t, p, open, "abc", impl.Mark{R: r, S: 3})
			}
		}
	}
	// In this group 2 is the open key of the secret 1.
	p := groups[1]
	m, ok := impl.SignOnce(p, 1, "abc", 9)
	if !ok || !impl.Verify(p, 2, "abc", m) {
		t.Errorf("open of 2 is not taken with %v", m)
	}
}

// These have the order Q by no means but would be taken for open keys if only
// their bounds were asked.
func TestVerifyRefusesWhatIsNoOpenKey(t *testing.T) {
	p := groups[0]
	refused := 0
	for open := 2; open < p.P; open++ {
		if powerOf(open, p.Q, p.P) == 1 {
			continue
		}
		for r := 1; r < p.Q; r += 7 {
			for s := 1; s < p.Q; s += 9 {
				refused++
				if impl.Verify(p, open, "abc", impl.Mark{R: r, S: s}) {
					t.Fatalf("open of %d is taken", open)
				}
			}
		}
	}
	if refused == 0 {
		t.Error("nothing was tried")
	}
}

func TestVerifyAtTheLongestText(t *testing.T) {
	for _, p := range groups {
		open, _ := impl.OpenKey(p, 9)
		for _, length := range []int{0, 1, 4999, 5000} {
			text := strings.Repeat("x", length)
			m, _, ok := impl.Sign(p, 9, text, []int{3, 4, 5, 6})
			if !ok || !impl.Verify(p, open, text, m) {
				t.Errorf("%d bytes under %v: %v, %t", length, p, m, ok)
			}
		}
		long := strings.Repeat("x", 5001)
		for r := 1; r < 60; r++ {
			if impl.Verify(p, open, long, impl.Mark{R: r, S: 1}) {
				t.Errorf("5001 bytes verify under %v", p)
			}
		}
	}
}

func TestVerifyRefusesWrongParams(t *testing.T) {
	for _, p := range noGroups {
		for _, open := range []int{0, 1, 2, 16, 115, p.G} {
			for r := 1; r < 20; r++ {
				if impl.Verify(p, open, "abc", impl.Mark{R: r, S: 4}) {
					t.Errorf("Verify under %v, %d", p, open)
				}
			}
		}
	}
}

func TestSignTakesTheFirstDrawThatWillDo(t *testing.T) {
	for _, p := range groups {
		for _, secret := range []int{1, 7, p.Q - 1} {
			var bad, good []int
			for k := -1; k < 101; k++ {
				if _, ok := wantMark(p, secret, "abc", k); ok {
					good = append(good, k)
				} else {
					bad = append(bad, k)
				}
			}
			bad = append(bad, p.Q, p.Q+1, p.Q+5, math.MinInt, math.MaxInt)
			for i := range bad {
				draws := append(slices.Clone(bad[:i]), good[i], good[i+1], good[0])
				want, _ := wantMark(p, secret, "abc", good[i])
				checkSign(t, p, secret, "abc", draws, want, i)
			}
			checkSign(t, p, secret, "abc", bad, impl.Mark{}, -1)
			checkSign(t, p, secret, "abc", good, mustMark(p, secret, good[0]), 0)
		}
	}
}

func mustMark(p impl.Params, secret int, k int) impl.Mark {
	m, _ := wantMark(p, secret, "abc", k)
	return m
}

// The draws with R of 0 and with S of 0 lie within their bounds, and are
// gone past all the same.
func TestSignGoesPastDrawsThatGiveNought(t *testing.T) {
	for _, p := range groups[:3] {
		var noughts []int
		for k := 1; k < p.Q; k++ {
			if _, ok := wantMark(p, 7, "abc", k); !ok {
				noughts = append(noughts, k)
			}
		}
		checkSign(t, p, 7, "abc", noughts, impl.Mark{}, -1)
		good := 5
		for slices.Contains(noughts, good) {
			good++
		}
		checkSign(t, p, 7, "abc", append(noughts, good), mustMark(p, 7, good), len(noughts))
	}
}

func TestSignCountsItsDraws(t *testing.T) {
	for _, p := range groups {
		good := 5
		for mustMark(p, 7, good) == (impl.Mark{}) {
			good++
		}
		want := mustMark(p, 7, good)
		checkSign(t, p, 7, "abc", nil, impl.Mark{}, -1)
		checkSign(t, p, 7, "abc", []int{}, impl.Mark{}, -1)
		checkSign(t, p, 7, "abc", []int{good}, want, 0)
		checkSign(t, p, 7, "abc", make([]int, 100), impl.Mark{}, -1)
		checkSign(t, p, 7, "abc", append(make([]int, 98), good), want, 98)
		checkSign(t, p, 7, "abc", append(make([]int, 99), good), want, 99)
		checkSign(t, p, 7, "abc", append(make([]int, 100), good), impl.Mark{}, -1)
		checkSign(t, p, 7, "abc", slices.Repeat([]int{good}, 100), want, 0)
		checkSign(t, p, 7, "abc", slices.Repeat([]int{good}, 101), impl.Mark{}, -1)
	}
}

func TestSignRefuses(t *testing.T) {
	draws := []int{1, 2, 3, 4, 5, 6, 7, 8, 9}
	for _, p := range noGroups {
		checkSign(t, p, 1, "abc", draws, impl.Mark{}, -1)
	}
	for _, p := range groups {
		for _, secret := range []int{math.MinInt, -1, 0, p.Q, p.Q + 7, math.MaxInt} {
			checkSign(t, p, secret, "abc", draws, impl.Mark{}, -1)
		}
		checkSign(t, p, 7, strings.Repeat("x", 5001), draws, impl.Mark{}, -1)
	}
}

func TestSignWritesIntoNoDraws(t *testing.T) {
	room := []int{0, 101, 5, 6, 7, 8, 9, 10}
	before := slices.Clone(room)
	impl.Sign(groups[0], 7, "abc", room[:3])
	impl.Sign(groups[0], 7, "abc", room[:1])
	impl.Sign(groups[0], 0, "abc", room[:3])
	if !slices.Equal(room, before) {
		t.Errorf("the draws are now %v", room)
	}
}

func TestMarkText(t *testing.T) {
	cases := map[impl.Mark]string{
		{}:                             "\x00\x00\x00\x00\x00\x00\x00\x00",
		{R: 27, S: 4}:                  "\x00\x00\x00\x1b\x00\x00\x00\x04",
		{R: 16909060, S: 84281096}:     "\x01\x02\x03\x04\x05\x06\x07\x08",
		{R: 4294967295, S: 0}:          "\xff\xff\xff\xff\x00\x00\x00\x00",
		{R: 0, S: 4294967295}:          "\x00\x00\x00\x00\xff\xff\xff\xff",
		{R: 4294967295, S: 4294967295}: "\xff\xff\xff\xff\xff\xff\xff\xff",
		{R: 2147483648, S: 2147483647}: "\x80\x00\x00\x00\x7f\xff\xff\xff",
		{R: 256, S: 65536}:             "\x00\x00\x01\x00\x00\x01\x00\x00",
	}
	for m, want := range cases {
		if got := impl.MarkText(m); got != want {
			t.Errorf("MarkText(%v) = %q, want %q", m, got, want)
		}
		if got, ok := impl.ReadMark(want); got != m || !ok {
			t.Errorf("ReadMark(%q) = %v, %t, want %v", want, got, ok, m)
		}
	}
	for _, n := range []int{math.MinInt, -4294967296, -1, 4294967296, 4294967297, math.MaxInt} {
		for _, m := range []impl.Mark{{R: n}, {S: n}, {R: n, S: 4294967295}, {R: 1, S: n}, {R: n, S: n}} {
			if got := impl.MarkText(m); got != "" {
				t.Errorf("MarkText(%v) = %q", m, got)
			}
		}
	}
}

func TestReadMark(t *testing.T) {
	for length := range 20 {
		for _, text := range []string{strings.Repeat("\x00", length), strings.Repeat("\xff", length), "123456789abcdefghijkl"[:length]} {
			m, ok := impl.ReadMark(text)
			if ok != (length == 8) || !ok && m != (impl.Mark{}) {
				t.Errorf("ReadMark(%q) = %v, %t", text, m, ok)
			}
			if ok && impl.MarkText(m) != text {
				t.Errorf("ReadMark(%q) = %v", text, m)
			}
		}
	}
	for place := range 8 {
		for b := range 256 {
			text := []byte("\x11\x22\x33\x44\x55\x66\x77\x88")
			text[place] = byte(b)
			m, ok := impl.ReadMark(string(text))
			if !ok || impl.MarkText(m) != string(text) {
				t.Errorf("ReadMark(%q) = %v, %t", text, m, ok)
			}
		}
	}
	if m, ok := impl.ReadMark(strings.Repeat("x", 100000)); ok || m != (impl.Mark{}) {
		t.Errorf("ReadMark of a long text = %v, %t", m, ok)
	}
}

func TestSignaturesAnswerAtAnyArguments(t *testing.T) {
	for _, a := range edgeNumbers {
		for _, b := range edgeNumbers {
			for _, c := range edgeNumbers {
				p := impl.Params{P: a, Q: b, G: c}
				if got, want := impl.ParamsOk(p), rightParams(p); got != want {
					t.Errorf("ParamsOk(%v) = %t", p, got)
				}
			}
			for _, p := range []impl.Params{groups[0], noGroups[0], {P: a, Q: b, G: 2}} {
				checkSignOnce(t, p, a, "abc", b)
				checkVerify(t, p, a, "abc", impl.Mark{R: b, S: a})
				checkVerify(t, p, 115, "abc", impl.Mark{R: a, S: b})
			}
		}
	}
}
