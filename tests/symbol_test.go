package tests

import (
	"fmt"
	"math"
	"math/rand"
	"strings"
	"testing"
	"unsafe"

	"loop.example/g00211/impl"
)

const (
	heartFields = 25
	mostPainted = 400
)

var wrongSizes = []int{math.MinInt, -impl.MaxSquare, -9, -1, 0, 1, 2, 3, 5, 6, 7, 8, 10, 12, 58, 60, 62, 63, 65, 1 << 31, 1 << 32, 1<<32 + 9, math.MaxInt}

// fieldsByRing is the way around the middle, side by side of each ring.
var fieldsByRing = func() [][2]int {
	list := [][2]int{{0, 0}}
	for d := 1; d <= impl.MaxSquare/2; d++ {
		for y := d - 1; y >= -d; y-- {
			list = append(list, [2]int{d, y})
		}
		for x := d - 1; x >= -d; x-- {
			list = append(list, [2]int{x, -d})
		}
		for y := 1 - d; y <= d; y++ {
			list = append(list, [2]int{-d, y})
		}
		for x := 1 - d; x <= d; x++ {
			list = append(list, [2]int{x, d})
		}
	}
	return list
}()

func rightSizes() []int {
	var list []int
	for size := 9; size <= impl.MaxSquare; size += 2 {
		list = append(list, size)
	}
	return list
}

func rightSquare(q impl.Square) bool {
	signs := strings.Count(q.Dark, "0") + strings.Count(q.Dark, "1")
	return within(q.Size, 9, 61) && q.Size%2 == 1 && len(q.Dark) == q.Size*q.Size && signs == len(q.Dark)
}

func wantDark(q impl.Square, x, y int) int {
	half := q.Size / 2
	if !rightSquare(q) || !within(x, -half, half) || !within(y, -half, half) {
		return -1
	}
	row := q.Dark[(half+y)*q.Size : (half+y+1)*q.Size]
	return int(row[half+x] - '0')
}

func wantTurn(q impl.Square, n int) impl.Square {
	if !rightSquare(q) {
		return q
	}
	for range bigMod(bigOf(n), 4) {
		var turned strings.Builder
		for row := range q.Size {
			for col := range q.Size {
				turned.WriteByte(q.Dark[(q.Size-1-col)*q.Size+row])
			}
		}
		q.Dark = turned.String()
	}
	return q
}

func wantHeartField(x, y int) byte {
	distance := max(x, -x, y, -y)
	corner := distance == 2 && (x == y || x == -y)
	if distance == 1 || corner && (x != -2 || y != -2) {
		return '0'
	}
	return '1'
}

// squareWith is a square with a heart, and so many of its other fields along
// the way as are told; those behind are light.
func squareWith(size int, signs string) impl.Square {
	dark := []byte(strings.Repeat("0", size*size))
	for k, at := range fieldsByRing[:size*size] {
		index := (at[1]+size/2)*size + at[0] + size/2
		if k < heartFields {
			dark[index] = wantHeartField(at[0], at[1])
		} else if k < heartFields+len(signs) {
			dark[index] = signs[k-heartFields]
		}
	}
	return impl.Square{Size: size, Dark: string(dark)}
}

func signsOf(s string) string {
	var signs strings.Builder
	for i := range len(s) {
		fmt.Fprintf(&signs, "%08b", s[i])
	}
	return signs.String()
}

// bodySigns tells any length and any sum.
func bodySigns(n int, s string, sum uint32) string {
	return fmt.Sprintf("%016b", n) + signsOf(s) + fmt.Sprintf("%032b", sum)
}

func leastSize(n int) int {
	for _, size := range rightSizes() {
		if size*size >= heartFields+8*(2+n+4) {
			return size
		}
	}
	return 0
}

func wantPaint(s string) (impl.Square, bool) {
	if len(s) > mostPainted {
		return impl.Square{}, false
	}
	return squareWith(leastSize(len(s)), bodySigns(len(s), s, impl.CheckSum(s))), true
}

func wantHeart(q impl.Square) int {
	for n := range 4 {
		turned := wantTurn(q, n)
		good := 0
		for _, at := range fieldsByRing[:heartFields] {
			if wantDark(turned, at[0], at[1]) == int(wantHeartField(at[0], at[1])-'0') {
				good++
			}
		}
		if good == heartFields {
			return n
		}
	}
	return -1
}

func numberOfSigns(signs string) int {
	n := 0
	for i := range len(signs) {
		n = 2*n + int(signs[i]-'0')
	}
	return n
}

func wantScan(q impl.Square) (string, int) {
	heart := wantHeart(q)
	if heart == -1 {
		return "", impl.SquareHeart
	}
	turned := wantTurn(q, heart)
	var signs strings.Builder
	for _, at := range fieldsByRing[heartFields : q.Size*q.Size] {
		fmt.Fprint(&signs, wantDark(turned, at[0], at[1]))
	}
	all := signs.String()
	n := numberOfSigns(all[:16])
	if n > mostPainted || 16+8*n+32 > len(all) {
		return "", impl.SquareLen
	}
	text := make([]byte, n)
	for i := range text {
		text[i] = byte(numberOfSigns(all[16+8*i:][:8]))
	}
	if numberOfSigns(all[16+8*n:][:32]) != int(impl.CheckSum(string(text))) {
		return "", impl.SquareSum
	}
	if strings.Contains(all[16+8*n+32:], "1") || q.Size > leastSize(n) {
		return "", impl.SquareRest
	}
	return string(text), impl.SquareFine
}

func anySquare(r *rand.Rand, size int) impl.Square {
	dark := make([]byte, size*size)
	for i := range dark {
		dark[i] = '0' + byte(r.Intn(2))
	}
	return impl.Square{Size: size, Dark: string(dark)}
}

// flipped has another sign at the field of that number.
func flipped(q impl.Square, k int) impl.Square {
	at := fieldsByRing[k]
	dark := []byte(q.Dark)
	dark[(at[1]+q.Size/2)*q.Size+at[0]+q.Size/2] ^= 1
	return impl.Square{Size: q.Size, Dark: string(dark)}
}

func paintedTexts() []string {
	list := []string{"", "a", "ab", "\x00", "\x00\x00\x00", "\xff", strings.Repeat("\x00", mostPainted), strings.Repeat("\xff", mostPainted), mixedText(5, mostPainted, 256), mixedText(6, mostPainted-1, 256)}
	for _, size := range rightSizes() {
		full := (size*size-heartFields)/8 - 6
		if full < mostPainted {
			list = append(list, mixedText(int64(size), full, 256), mixedText(int64(size), full+1, 256))
		}
	}
	return list
}

func checkTurnBy(t *testing.T, q impl.Square, n int) {
	t.Helper()
	if got := impl.TurnBy(q, n); got != wantTurn(q, n) {
		t.Errorf("TurnBy(size %d, %d) = %v, want %v", q.Size, n, got, wantTurn(q, n))
	}
}

func checkScan(t *testing.T, q impl.Square) int {
	t.Helper()
	want, code := wantScan(q)
	got, said := impl.Scan(q)
	if got != want || said != code {
		t.Errorf("Scan(%v) = %q, %d, want %q, %d", q, got, said, want, code)
	}
	if got := impl.Heart(q); got != wantHeart(q) {
		t.Errorf("Heart(%v) = %d, want %d", q, got, wantHeart(q))
	}
	return said
}

// checkSaid asks for the code whichever way the square is held.
func checkSaid(t *testing.T, q impl.Square, code int) {
	t.Helper()
	for n := range 4 {
		if said := checkScan(t, wantTurn(q, n)); said != code {
			t.Errorf("Scan(%v), turned by %d, says %d, want %d", q, n, said, code)
		}
	}
}

func TestSquareConstants(t *testing.T) {
	if impl.MaxSquare != 61 {
		t.Errorf("MaxSquare = %d", impl.MaxSquare)
	}
	codes := [5]int{impl.SquareFine, impl.SquareHeart, impl.SquareLen, impl.SquareSum, impl.SquareRest}
	if codes != [5]int{0, 1, 2, 3, 4} {
		t.Errorf("the codes are %v", codes)
	}
}

// spiralFields is the way as the program tells it.
func spiralFields() [][2]int {
	list := make([][2]int, impl.MaxSquare*impl.MaxSquare)
	for k := range list {
		list[k][0], list[k][1] = impl.Spiral(k)
	}
	return list
}

func TestTheWayGoesOneFieldAtATime(t *testing.T) {
	way := spiralFields()
	if way[0] != [2]int{0, 0} {
		t.Errorf("the way begins at %v", way[0])
	}
	for k := 1; k < len(way); k++ {
		dx, dy := way[k][0]-way[k-1][0], way[k][1]-way[k-1][1]
		if dx*dx+dy*dy != 1 {
			t.Errorf("field %d is at %v behind %v", k, way[k], way[k-1])
		}
		if way[k] != fieldsByRing[k] {
			t.Errorf("field %d is at %v, want %v", k, way[k], fieldsByRing[k])
		}
	}
}

func TestTheWayComesToEachFieldOfASquareOnce(t *testing.T) {
	way := spiralFields()
	for n := 1; n <= impl.MaxSquare; n += 2 {
		seen := map[[2]int]bool{}
		for _, at := range way[:n*n] {
			if !within(at[0], -n/2, n/2) || !within(at[1], -n/2, n/2) || seen[at] {
				t.Errorf("the first %d fields of the way have %v outside or twice", n*n, at)
			}
			seen[at] = true
		}
	}
}

func checkSpiral(t *testing.T, k, x, y int) {
	t.Helper()
	if gotX, gotY := impl.Spiral(k); gotX != x || gotY != y {
		t.Errorf("Spiral(%d) = %d, %d, want %d, %d", k, gotX, gotY, x, y)
	}
}

func TestCornersOfTheWay(t *testing.T) {
	for d := 1; d <= impl.MaxSquare/2; d++ {
		first := (2*d - 1) * (2*d - 1)
		checkSpiral(t, first-1, d-1, d-1)
		checkSpiral(t, first, d, d-1)
		checkSpiral(t, first+2*d-2, d, 1-d)
		checkSpiral(t, first+2*d-1, d, -d)
		checkSpiral(t, first+2*d, d-1, -d)
		checkSpiral(t, first+4*d-1, -d, -d)
		checkSpiral(t, first+4*d, -d, 1-d)
		checkSpiral(t, first+6*d-1, -d, d)
		checkSpiral(t, first+6*d, 1-d, d)
		checkSpiral(t, first+8*d-1, d, d)
	}
}

func TestTheWayAtItsEnds(t *testing.T) {
	checkSpiral(t, 0, 0, 0)
	checkSpiral(t, 24, 2, 2)
	checkSpiral(t, 25, 3, 2)
	checkSpiral(t, 3720, 30, 30)
	for _, k := range []int{math.MinInt, -3720, -25, -2, -1, 3721, 3722, 3969, 1 << 32, math.MaxInt - 1, math.MaxInt} {
		checkSpiral(t, k, -1000, -1000)
	}
}

func checkSquareOk(t *testing.T, q impl.Square) bool {
	t.Helper()
	got := impl.SquareOk(q)
	if got != rightSquare(q) {
		t.Errorf("SquareOk(%v) = %t", q, got)
	}
	return got
}

// checkNoSquare asks for what each function answers at what is no square.
func checkNoSquare(t *testing.T, q impl.Square) {
	t.Helper()
	if checkSquareOk(t, q) {
		t.Errorf("SquareOk(%v)", q)
	}
	if got := impl.DarkAt(q, 0, 0); got != -1 {
		t.Errorf("DarkAt(%v, 0, 0) = %d", q, got)
	}
	if got := impl.Turn(q); got != q {
		t.Errorf("Turn(%v) = %v", q, got)
	}
	for _, n := range []int{-1, 0, 1, 2, 3} {
		if got := impl.TurnBy(q, n); got != q {
			t.Errorf("TurnBy(%v, %d) = %v", q, n, got)
		}
	}
	if got := impl.Heart(q); got != -1 {
		t.Errorf("Heart(%v) = %d", q, got)
	}
	if got, said := impl.Scan(q); got != "" || said != impl.SquareHeart {
		t.Errorf("Scan(%v) = %q, %d", q, got, said)
	}
}

func TestSizesOfSquares(t *testing.T) {
	for _, size := range rightSizes() {
		if !checkSquareOk(t, squareWith(size, "")) {
			t.Errorf("a size of %d is refused", size)
		}
	}
	for size := -70; size <= 70; size++ {
		checkSquareOk(t, impl.Square{Size: size, Dark: strings.Repeat("1", size*size)})
	}
	for _, size := range wrongSizes {
		for _, dark := range []string{"", "1", strings.Repeat("0", 7*7), squareWith(9, "").Dark, strings.Repeat("0", 10*10), squareWith(61, "").Dark, strings.Repeat("1", 63*63)} {
			checkNoSquare(t, impl.Square{Size: size, Dark: dark})
		}
	}
	for _, size := range []int{7, 10, 63} {
		checkNoSquare(t, impl.Square{Size: size, Dark: strings.Repeat("0", size*size)})
	}
}

func TestSizesThatDoNotFit(t *testing.T) {
	for _, size := range rightSizes() {
		dark := squareWith(size, "").Dark
		for _, other := range []string{"", dark[1:], dark[:len(dark)-1], dark + "0", "0" + dark, dark + dark, dark[:size], squareWith(70-size, "").Dark} {
			if len(other) != len(dark) {
				checkNoSquare(t, impl.Square{Size: size, Dark: other})
			}
		}
	}
}

func TestSignsOtherThanNoughtAndOne(t *testing.T) {
	for _, size := range []int{9, 11, 61} {
		q := squareWith(size, "")
		for _, at := range []int{0, 1, size, size * size / 2, size*size - 2, size*size - 1} {
			for b := range 256 {
				dark := []byte(q.Dark)
				dark[at] = byte(b)
				wrong := impl.Square{Size: size, Dark: string(dark)}
				if b == '0' || b == '1' {
					checkSquareOk(t, wrong)
				} else {
					checkNoSquare(t, wrong)
				}
			}
		}
	}
}

func TestDarkAtEachField(t *testing.T) {
	r := rand.New(rand.NewSource(1))
	for _, size := range []int{9, 11, 35, 61} {
		q := anySquare(r, size)
		for x := -size; x <= size; x++ {
			for y := -size; y <= size; y++ {
				if got := impl.DarkAt(q, x, y); got != wantDark(q, x, y) {
					t.Errorf("DarkAt(%v, %d, %d) = %d", q, x, y, got)
				}
			}
		}
	}
}

func TestDarkAtFieldsOutside(t *testing.T) {
	dark := impl.Square{Size: 9, Dark: strings.Repeat("1", 81)}
	for _, a := range append(edgeNumbers, -5, -4, 4, 5, 9, math.MinInt+4, math.MaxInt-4) {
		for _, b := range []int{-5, -4, 0, 4, 5} {
			want := -1
			if within(a, -4, 4) && within(b, -4, 4) {
				want = 1
			}
			if x, y := impl.DarkAt(dark, a, b), impl.DarkAt(dark, b, a); x != want || y != want {
				t.Errorf("DarkAt of %d and %d = %d, the other way %d, want %d", a, b, x, y, want)
			}
		}
	}
}

func TestAFieldStandsWhereItShouldBehindAQuarter(t *testing.T) {
	r := rand.New(rand.NewSource(2))
	for _, size := range rightSizes() {
		q := anySquare(r, size)
		turned := impl.Turn(q)
		if turned != wantTurn(q, 1) {
			t.Errorf("Turn(%v) = %v", q, turned)
		}
		for _, at := range fieldsByRing[:size*size] {
			if wantDark(turned, -at[1], at[0]) != wantDark(q, at[0], at[1]) {
				t.Errorf("what was at %v in %v is not where it should be in %v", at, q, turned)
			}
		}
	}
}

func TestOneDarkFieldIsTurned(t *testing.T) {
	light := impl.Square{Size: 9, Dark: strings.Repeat("0", 81)}
	for k, at := range fieldsByRing[:81] {
		turned := impl.Turn(flipped(light, k))
		if strings.Count(turned.Dark, "1") != 1 || impl.DarkAt(turned, -at[1], at[0]) != 1 {
			t.Errorf("the one dark field at %v is turned to %v", at, turned)
		}
	}
}

func TestFourQuartersLeaveASquareAsItWas(t *testing.T) {
	r := rand.New(rand.NewSource(3))
	for _, size := range rightSizes() {
		q := anySquare(r, size)
		if got := impl.Turn(impl.Turn(impl.Turn(impl.Turn(q)))); got != q {
			t.Errorf("four quarters of %v are %v", q, got)
		}
	}
}

func TestTurnsAddUp(t *testing.T) {
	r := rand.New(rand.NewSource(4))
	for _, size := range []int{9, 11, 61} {
		q := anySquare(r, size)
		for a := -9; a <= 9; a++ {
			checkTurnBy(t, q, a)
			for b := -5; b <= 5; b++ {
				if impl.TurnBy(impl.TurnBy(q, a), b) != impl.TurnBy(q, a+b) {
					t.Errorf("turns by %d and %d of %v are not one by %d", a, b, q, a+b)
				}
			}
		}
		for _, n := range append(edgeNumbers, math.MinInt+2, math.MinInt+3, math.MaxInt-3, math.MaxInt-2) {
			checkTurnBy(t, q, n)
		}
		if impl.TurnBy(q, math.MinInt) != q || impl.TurnBy(q, math.MaxInt) != wantTurn(q, 3) {
			t.Errorf("turns by the least or the greatest int of %v", q)
		}
	}
}

func checkPaint(t *testing.T, s string) impl.Square {
	t.Helper()
	want, will := wantPaint(s)
	got, ok := impl.Paint(s)
	if got != want || ok != will {
		t.Errorf("Paint(%q) = %v, %t, want %v, %t", s, got, ok, want, will)
	}
	return got
}

func TestPaintIsSpelt(t *testing.T) {
	want := map[string][]string{
		"": {
			"000000000",
			"000000000",
			"001111000",
			"001000100",
			"001010100",
			"001000100",
			"000111000",
			"000000000",
			"000000000",
		},
		"a": {
			"111011010",
			"100000000",
			"001111000",
			"101000101",
			"101010100",
			"111000101",
			"100111001",
			"111000011",
			"001000011",
		},
	}
	for s, rows := range want {
		if got, ok := impl.Paint(s); !ok || got != (impl.Square{Size: len(rows), Dark: strings.Join(rows, "")}) {
			t.Errorf("Paint(%q) = %v, %t", s, got, ok)
		}
	}
}

func TestPaintOfEveryLength(t *testing.T) {
	for n := range mostPainted + 1 {
		checkPaint(t, mixedText(int64(n), n, 256))
	}
	for _, s := range paintedTexts() {
		checkPaint(t, s)
	}
}

func TestPaintOfEveryByte(t *testing.T) {
	for b := range 256 {
		s := string([]byte{byte(b)})
		if q := checkPaint(t, s); q.Size != 9 {
			t.Errorf("Paint(%q) has a size of %d", s, q.Size)
		}
	}
}

func TestTheLeastSquareIsTaken(t *testing.T) {
	full := map[int]int{9: 1, 11: 6, 13: 12, 15: 19, 17: 27, 33: 127, 35: 144, 57: 397}
	for size, n := range full {
		here, beyond := checkPaint(t, strings.Repeat("x", n)), checkPaint(t, strings.Repeat("x", n+1))
		if here.Size != size || beyond.Size != size+2 {
			t.Errorf("%d bytes have a size of %d, %d one of %d", n, here.Size, n+1, beyond.Size)
		}
	}
	if most := checkPaint(t, strings.Repeat("x", mostPainted)); most.Size != 59 {
		t.Errorf("the longest text has a size of %d", most.Size)
	}
}

func TestPaintRefusesLongerTexts(t *testing.T) {
	for _, n := range []int{401, 402, 427, 428, 456, 657, 65536, 65537, 1000000} {
		for _, letter := range []string{"\x00", "a"} {
			if q, ok := impl.Paint(strings.Repeat(letter, n)); ok || q != (impl.Square{}) {
				t.Errorf("Paint of %d bytes = %v, %t", n, q, ok)
			}
		}
	}
}

func TestATextComesBackFromItsSquareWhicheverWayItIsHeld(t *testing.T) {
	texts := paintedTexts()
	for n := range mostPainted + 1 {
		texts = append(texts, mixedText(int64(7*n), n, 256))
	}
	for _, s := range texts {
		q := checkPaint(t, s)
		for n := range 4 {
			held := impl.TurnBy(q, n)
			if heart := impl.Heart(held); heart != (4-n)%4 || impl.TurnBy(held, heart) != q {
				t.Errorf("the square of %q turned by %d has its heart at %d", s, n, heart)
			}
			if got, said := impl.Scan(held); got != s || said != impl.SquareFine {
				t.Errorf("Scan of the square of %q turned by %d = %q, %d", s, n, got, said)
			}
		}
	}
}

func TestASquareWithOneFieldWrongIsNotTakenForItsText(t *testing.T) {
	for _, s := range []string{"", "a", "ab", "abcdef", "abcdefg", "\x00\x00", mixedText(1, 127, 256), mixedText(1, 128, 256), strings.Repeat("\xff", 397), mixedText(2, 400, 256)} {
		q := checkPaint(t, s)
		step := 1 + len(s)/60
		for k := 0; k < q.Size*q.Size; k += 1 + k/200*step {
			said := checkScan(t, wantTurn(flipped(q, k), k))
			if k < heartFields && said != impl.SquareHeart {
				t.Errorf("field %d of the heart of %q is wrong, and Scan says %d", k, s, said)
			}
			if k >= heartFields+16+8*len(s)+32 && said != impl.SquareRest {
				t.Errorf("field %d behind %q is dark, and Scan says %d", k, s, said)
			}
			if got, said := impl.Scan(flipped(q, k)); said == impl.SquareFine && got == s {
				t.Errorf("field %d of the square of %q is wrong, and it is read", k, s)
			}
		}
	}
}

func TestHeartsWithTwoFieldsWrong(t *testing.T) {
	q := checkPaint(t, "ab")
	for a := range heartFields {
		for b := range a {
			wrong := flipped(flipped(q, a), b)
			checkScan(t, wrong)
			if heart := impl.Heart(wrong); heart != wantHeart(wrong) {
				t.Errorf("with fields %d and %d wrong the heart is at %d", a, b, heart)
			}
		}
	}
}

func TestCornersOfTheHeart(t *testing.T) {
	corners := [4]int{12, 16, 20, 24}
	quarters := map[int]int{1: 3, 2: 0, 4: 1, 8: 2}
	for set := range 16 {
		q := flipped(checkPaint(t, "abc"), 16)
		for i, k := range corners {
			if set>>i&1 == 1 {
				q = flipped(q, k)
			}
		}
		want, ok := quarters[set]
		if !ok {
			want = -1
		}
		if got := impl.Heart(q); got != want {
			t.Errorf("with the corners %04b of the heart dark it is at %d, want %d", set, got, want)
		}
		checkScan(t, q)
	}
}

func TestNothingButTheHeartTellsWhereItIs(t *testing.T) {
	r := rand.New(rand.NewSource(5))
	for _, size := range rightSizes() {
		for n := range 4 {
			signs := anySquare(r, size).Dark
			q := wantTurn(squareWith(size, signs), n)
			if got := impl.Heart(q); got != (4-n)%4 {
				t.Errorf("Heart(%v) = %d", q, got)
			}
			checkScan(t, q)
		}
		for _, sign := range []string{"0", "1"} {
			checkSaid(t, impl.Square{Size: size, Dark: strings.Repeat(sign, size*size)}, impl.SquareHeart)
		}
	}
}

func TestAHeartThatIsNotInTheMiddle(t *testing.T) {
	q := checkPaint(t, "abcdefgh")
	moved := impl.Square{Size: q.Size, Dark: q.Dark[1:] + "0"}
	checkSaid(t, moved, impl.SquareHeart)
	moved.Dark = q.Dark[q.Size:] + strings.Repeat("0", q.Size)
	checkSaid(t, moved, impl.SquareHeart)
	mirrored := []byte(q.Dark)
	for i := range mirrored {
		mirrored[i] = q.Dark[i/q.Size*q.Size+q.Size-1-i%q.Size]
	}
	checkScan(t, impl.Square{Size: q.Size, Dark: string(mirrored)})
}

func TestLengthsOfMoreThanAreDrawn(t *testing.T) {
	text := strings.Repeat("y", 451)
	for _, n := range []int{401, 402, 450, 451} {
		checkSaid(t, squareWith(61, bodySigns(n, text[:n], impl.CheckSum(text[:n]))), impl.SquareLen)
	}
	for _, n := range []int{401, 456, 457, 511, 512, 32768, 65535} {
		for _, size := range []int{9, 59, 61} {
			checkSaid(t, squareWith(size, fmt.Sprintf("%016b", n)), impl.SquareLen)
		}
	}
	most := text[:mostPainted]
	checkSaid(t, squareWith(59, bodySigns(mostPainted, most, impl.CheckSum(most))), impl.SquareFine)
	checkSaid(t, squareWith(61, bodySigns(mostPainted, most, impl.CheckSum(most))), impl.SquareRest)
}

func TestLengthsOfMoreThanThereAreFields(t *testing.T) {
	for _, size := range rightSizes() {
		full := (size*size-heartFields)/8 - 6
		for n := full + 1; n <= full+6 && n <= mostPainted; n++ {
			text := strings.Repeat("\x00", n)
			checkSaid(t, squareWith(size, bodySigns(n, text, impl.CheckSum(text))), impl.SquareLen)
		}
		for _, n := range []int{full, full - 1} {
			if n >= 0 && n <= mostPainted {
				text := mixedText(int64(n), n, 256)
				checkScan(t, squareWith(size, bodySigns(n, text, impl.CheckSum(text))))
				checkSaid(t, squareWith(size, bodySigns(n, text, impl.CheckSum(text)+1)), impl.SquareSum)
			}
		}
	}
}

func TestAnotherSum(t *testing.T) {
	for _, s := range []string{"", "a", "abc", mixedText(1, 200, 256)} {
		sum := impl.CheckSum(s)
		for bit := range 32 {
			checkSaid(t, squareWith(leastSize(len(s)), bodySigns(len(s), s, sum^1<<bit)), impl.SquareSum)
		}
		for i := range len(s) {
			other := s[:i] + string([]byte{s[i] ^ 1}) + s[i+1:]
			checkSaid(t, squareWith(leastSize(len(s)), bodySigns(len(s), other, sum)), impl.SquareSum)
		}
	}
	checkSaid(t, squareWith(9, bodySigns(0, "", 1)), impl.SquareSum)
	checkSaid(t, squareWith(9, bodySigns(1, "", 0)), impl.SquareSum)
}

func TestADarkFieldBehindTheEnd(t *testing.T) {
	for _, s := range []string{"", "ab", "abc", mixedText(3, 398, 256)} {
		q := checkPaint(t, s)
		end := heartFields + 8*(6+len(s))
		for _, k := range []int{end, end + 1, (end + q.Size*q.Size) / 2, q.Size*q.Size - 2, q.Size*q.Size - 1} {
			checkSaid(t, flipped(q, k), impl.SquareRest)
		}
		checkSaid(t, squareWith(q.Size, bodySigns(len(s), s, impl.CheckSum(s))+strings.Repeat("1", q.Size*q.Size)), impl.SquareRest)
	}
}

func TestASquareGreaterThanItNeedBe(t *testing.T) {
	for _, n := range []int{0, 1, 2, 6, 7, 12, 126, 127, 397, 398, 400} {
		text := mixedText(int64(n), n, 256)
		signs := bodySigns(n, text, impl.CheckSum(text))
		for _, size := range rightSizes() {
			if size == leastSize(n) {
				checkSaid(t, squareWith(size, signs), impl.SquareFine)
			} else if size > leastSize(n) {
				checkSaid(t, squareWith(size, signs), impl.SquareRest)
				checkSaid(t, flipped(squareWith(size, signs), size*size-1), impl.SquareRest)
			}
		}
	}
}

func TestWhichReasonOfASquareIsToldFirst(t *testing.T) {
	rest := strings.Repeat("1", impl.MaxSquare*impl.MaxSquare)
	for _, size := range []int{9, 11, 59, 61} {
		long := squareWith(size, bodySigns(401, "", 1)+rest)
		sum := squareWith(size, bodySigns(1, "a", impl.CheckSum("a")^1)+rest)
		great := squareWith(size, bodySigns(0, "", 0)+rest)
		checkSaid(t, flipped(long, 0), impl.SquareHeart)
		checkSaid(t, flipped(sum, 24), impl.SquareHeart)
		checkSaid(t, flipped(great, 9), impl.SquareHeart)
		checkSaid(t, long, impl.SquareLen)
		checkSaid(t, sum, impl.SquareSum)
		checkSaid(t, great, impl.SquareRest)
	}
	checkNoSquare(t, impl.Square{Size: 9, Dark: squareWith(9, bodySigns(401, "", 1)).Dark + "0"})
	checkSaid(t, squareWith(9, bodySigns(2, "", 1)), impl.SquareLen)
	checkSaid(t, squareWith(61, bodySigns(2, "", 1)), impl.SquareSum)
}

func TestNothingButAPaintedSquareIsRead(t *testing.T) {
	r := rand.New(rand.NewSource(6))
	for i := range 600 {
		s := mixedText(int64(i), r.Intn(40), 256)
		q := checkPaint(t, s)
		for range r.Intn(3) {
			q = flipped(q, heartFields+r.Intn(q.Size*q.Size-heartFields))
		}
		held := wantTurn(q, r.Intn(4))
		got, said := impl.Scan(held)
		painted, _ := impl.Paint(got)
		if fine := said == impl.SquareFine; fine != (painted == q && got == s) {
			t.Errorf("Scan(%v) = %q, %d", held, got, said)
		}
		checkScan(t, held)
	}
}

func TestSquaresAnswerNewMemory(t *testing.T) {
	right, _ := wantPaint("abc")
	wrong := impl.Square{Size: 10, Dark: right.Dark}
	for name, pair := range map[string][2]impl.Square{
		"Turn of no square":   {wrong, impl.Turn(wrong)},
		"TurnBy of no square": {wrong, impl.TurnBy(wrong, 1)},
		"TurnBy of 0":         {right, impl.TurnBy(right, 0)},
		"TurnBy of 4":         {right, impl.TurnBy(right, 4)},
	} {
		if pair[0] != pair[1] || unsafe.StringData(pair[0].Dark) == unsafe.StringData(pair[1].Dark) {
			t.Errorf("%s answers %v, or shares its memory", name, pair[1])
		}
	}
}

func TestSquaresAnswerAtAnyArguments(t *testing.T) {
	right := checkPaint(t, "abc")
	for _, a := range edgeNumbers {
		if !within(a, 0, 3720) {
			checkSpiral(t, a, -1000, -1000)
		}
		checkTurnBy(t, right, a)
		for _, dark := range []string{"", right.Dark, squareWith(61, "").Dark} {
			checkNoSquare(t, impl.Square{Size: a, Dark: dark})
		}
		for _, b := range edgeNumbers {
			if got := impl.DarkAt(right, a, b); got != wantDark(right, a, b) {
				t.Errorf("DarkAt(%v, %d, %d) = %d", right, a, b, got)
			}
			if got := impl.DarkAt(impl.Square{Size: a, Dark: right.Dark}, b, a); got != -1 {
				t.Errorf("DarkAt of a size of %d at %d, %d = %d", a, b, a, got)
			}
		}
	}
	for _, s := range append(signTexts(), plainTexts()...) {
		checkPaint(t, s)
		checkNoSquare(t, impl.Square{Size: 9, Dark: s})
		checkNoSquare(t, impl.Square{Size: len(s), Dark: s})
	}
	checkNoSquare(t, impl.Square{Size: 1001, Dark: strings.Repeat("1", 1001*1001)})
}
