package tests

import (
	"compress/flate"
	"fmt"
	"io"
	"math"
	"math/rand"
	"slices"
	"strconv"
	"strings"
	"testing"

	"loop.example/g00211/impl"
)

// The tables of RFC 1951, 3.2.5, written out.
var (
	lenBases  = []int{3, 4, 5, 6, 7, 8, 9, 10, 11, 13, 15, 17, 19, 23, 27, 31, 35, 43, 51, 59, 67, 83, 99, 115, 131, 163, 195, 227, 258}
	lenMores  = []int{0, 0, 0, 0, 0, 0, 0, 0, 1, 1, 1, 1, 2, 2, 2, 2, 3, 3, 3, 3, 4, 4, 4, 4, 5, 5, 5, 5, 0}
	backBases = []int{1, 2, 3, 4, 5, 7, 9, 13, 17, 25, 33, 49, 65, 97, 129, 193, 257, 385, 513, 769, 1025, 1537, 2049, 3073, 4097, 6145, 8193, 12289, 16385, 24577}
	backMores = []int{0, 0, 0, 0, 1, 1, 2, 2, 3, 3, 4, 4, 5, 5, 6, 6, 7, 7, 8, 8, 9, 9, 10, 10, 11, 11, 12, 12, 13, 13}
)

// lastFixed and lastStored are the bits that a last block begins with.
const (
	lastFixed  = "110"
	lastStored = "100"
	endOfBlock = "0000000"
)

func highBits(n, count int) string {
	return fmt.Sprintf("%0*b", count, n)[:count]
}

func lowBits(n, count int) string {
	b := []byte(fmt.Sprintf("%0*b", count, n))
	slices.Reverse(b)
	return string(b)[:count]
}

// fixedBits also has the codes of 286 and 287, which stand in the table.
func fixedBits(sym int) string {
	switch {
	case sym <= 143:
		return highBits(sym+48, 8)
	case sym <= 255:
		return highBits(sym+256, 9)
	case sym <= 279:
		return highBits(sym-256, 7)
	}
	return highBits(sym-88, 8)
}

func lenBits(n int) string {
	i := len(lenBases) - 1
	for lenBases[i] > n {
		i--
	}
	return fixedBits(257+i) + lowBits(n-lenBases[i], lenMores[i])
}

func backBits(d int) string {
	i := len(backBases) - 1
	for backBases[i] > d {
		i--
	}
	return highBits(i, 5) + lowBits(d-backBases[i], backMores[i])
}

func textBits(s string) string {
	b := strings.Builder{}
	for i := range len(s) {
		b.WriteString(fixedBits(int(s[i])))
	}
	return b.String()
}

// bytesOf fills bytes from the lowest bit on.
func bytesOf(bits ...string) string {
	all := strings.Join(bits, "")
	made := make([]byte, (len(all)+7)/8)
	for i := range len(all) {
		made[i/8] |= (all[i] - '0') << (i % 8)
	}
	return string(made)
}

func bitsOf(s string) string {
	bits := make([]byte, 8*len(s))
	for i := range bits {
		bits[i] = '0' + s[i/8]>>(i%8)&1
	}
	return string(bits)
}

func storedText(n, turned int, s string) string {
	return string([]byte{1, byte(n), byte(n >> 8), byte(turned), byte(turned >> 8)}) + s
}

func mixedText(seed int64, n, letters int) string {
	r := rand.New(rand.NewSource(seed))
	b := make([]byte, n)
	for i := range b {
		b[i] = byte(255 - r.Intn(letters))
	}
	return string(b)
}

func plainTexts() []string {
	list := []string{
		"", "a", "ab", "abc", "aaa", "aaaa", "aaaaa", "abcab", "abcabc", "abcabcabcabd", "\x00\x00\x00\x00", "\xff\xfe\xff\xfe\xff\xfe",
		"abcxbcdxabcd", "abcdXabceYabc", "\x8f\x90\xff\x00", "die fahrt, die fahrt, die ganze fahrt",
		strings.Repeat("a", 258), strings.Repeat("a", 259), strings.Repeat("a", 260), strings.Repeat("a", 261), strings.Repeat("a", 262),
		strings.Repeat("ab", 260), strings.Repeat("a", impl.MaxPlain-1), strings.Repeat("a", impl.MaxPlain), mixedText(9, impl.MaxPlain, 256),
	}
	for seed := range int64(40) {
		list = append(list, mixedText(seed, int(seed*seed), 2+int(seed%5)))
	}
	for _, gap := range []int{1020, 1021, 1022, 1023} {
		list = append(list, "xyz"+mixedText(3, gap, 200)+"xyzxyz")
	}
	return list
}

// wantPieces tries every place within the window, the nearest first.
func wantPieces(s string) []impl.Piece {
	list := []impl.Piece{}
	for at := 0; at < len(s); {
		best := impl.Piece{Byte: int(s[at])}
		for back := 1; back <= 1024 && back <= at; back++ {
			n := 0
			for n < 258 && at+n < len(s) && s[at+n] == s[at+n-back] {
				n++
			}
			if n >= 3 && n > best.Len {
				best = impl.Piece{Len: n, Back: back}
			}
		}
		list = append(list, best)
		at += max(best.Len, 1)
	}
	return list
}

func TestPackConstants(t *testing.T) {
	if limits := [3]int{impl.MaxPlain, impl.MaxPacked, impl.Window}; limits != [3]int{3000, 6000, 1024} {
		t.Errorf("the limits are %v", limits)
	}
	codes := [7]int{impl.PackOk, impl.PackCut, impl.PackKind, impl.PackSym, impl.PackBack, impl.PackLong, impl.PackRest}
	if codes != [7]int{0, 1, 2, 3, 4, 5, 6} {
		t.Errorf("the codes are %v", codes)
	}
}

func TestPiecesAreTheLongestCopies(t *testing.T) {
	for _, s := range plainTexts() {
		if got, want := impl.Pieces(s), wantPieces(s); !slices.Equal(got, want) {
			t.Errorf("Pieces of %d bytes %.40q = %v, want %v", len(s), s, got, want)
		}
	}
}

func TestPiecesOfEveryShortText(t *testing.T) {
	texts := []string{""}
	for i := 0; len(texts[i]) < 9; i++ {
		for _, letter := range []string{"a", "b"} {
			texts = append(texts, texts[i]+letter)
		}
	}
	for _, s := range texts {
		if got, want := impl.Pieces(s), wantPieces(s); !slices.Equal(got, want) {
			t.Errorf("Pieces(%q) = %v, want %v", s, got, want)
		}
	}
}

func TestPiecesAtTheirBounds(t *testing.T) {
	cases := []struct {
		text string
		last impl.Piece
	}{
		{"abXab", impl.Piece{Byte: 'b'}},
		{"abcXabc", impl.Piece{Len: 3, Back: 4}},
		{strings.Repeat("a", 4), impl.Piece{Len: 3, Back: 1}},
		{strings.Repeat("a", 3), impl.Piece{Byte: 'a'}},
		{strings.Repeat("a", 259), impl.Piece{Len: 258, Back: 1}},
		{strings.Repeat("a", 260), impl.Piece{Byte: 'a'}},
		{strings.Repeat("a", 262), impl.Piece{Len: 3, Back: 1}},
		{"abcXabcYabc", impl.Piece{Len: 3, Back: 4}},
		{"abcdXabcYabcd", impl.Piece{Len: 4, Back: 9}},
		{"xyz" + runningText(1021) + "xyz", impl.Piece{Len: 3, Back: 1024}},
		{"xyz" + runningText(1022) + "xyz", impl.Piece{Byte: 'z'}},
		{"wxyz" + runningText(1000) + "xyz" + runningText(20) + "wxyz", impl.Piece{Len: 3, Back: 24}},
	}
	for _, c := range cases {
		list := impl.Pieces(c.text)
		if got := list[len(list)-1]; got != c.last {
			t.Errorf("the last of Pieces of %d bytes %.20q = %v, want %v", len(c.text), c.text, got, c.last)
		}
	}
}

// runningText has no letter of xyz and no three bytes twice.
func runningText(n int) string {
	b := strings.Builder{}
	for i := 0; b.Len() < n; i++ {
		b.WriteByte(byte(128 + i%128))
		b.WriteByte(byte(i / 128))
		b.WriteByte(byte(128 + i%127))
	}
	return b.String()[:n]
}

func TestPiecesOfTheLongestText(t *testing.T) {
	s := mixedText(1, impl.MaxPlain, 3)
	if got := impl.Pieces(s); !slices.Equal(got, wantPieces(s)) {
		t.Errorf("Pieces of MaxPlain bytes are not the longest copies")
	}
	if got := impl.Pieces(s + "a"); len(got) != 0 {
		t.Errorf("Pieces of a byte more = %d pieces, want none", len(got))
	}
}

func TestATextComesBackFromItsPieces(t *testing.T) {
	for _, s := range plainTexts() {
		if got, ok := impl.Whole(impl.Pieces(s)); got != s || !ok {
			t.Errorf("Whole(Pieces(%.40q)) = %.40q, %t", s, got, ok)
		}
	}
}

func piecesOf(s string) []impl.Piece {
	list := []impl.Piece{}
	for i := range len(s) {
		list = append(list, impl.Piece{Byte: int(s[i])})
	}
	return list
}

func checkWhole(t *testing.T, list []impl.Piece, want string, will bool) {
	t.Helper()
	if got, ok := impl.Whole(list); got != want || ok != will {
		t.Errorf("Whole(%d pieces) = %.40q (%d bytes), %t, want %.40q (%d bytes), %t", len(list), got, len(got), ok, want, len(want), will)
	}
}

func TestWhole(t *testing.T) {
	far := mixedText(2, 1025, 256)
	with := func(ahead string, p ...impl.Piece) []impl.Piece { return append(piecesOf(ahead), p...) }
	checkWhole(t, nil, "", true)
	checkWhole(t, with("\x00\xff"), "\x00\xff", true)
	checkWhole(t, with("ab", impl.Piece{Len: 5, Back: 2}), "abababa", true)
	checkWhole(t, with("ab", impl.Piece{Len: 3, Back: 1}, impl.Piece{Byte: 'c'}), "abbbbc", true)
	checkWhole(t, with("abc", impl.Piece{Len: 3, Back: 3}), "abcabc", true)
	checkWhole(t, with("a", impl.Piece{Len: 258, Back: 1}), strings.Repeat("a", 259), true)
	checkWhole(t, with(far, impl.Piece{Len: 3, Back: 1024}), far+far[1:4], true)
	checkWhole(t, with(far[1:], impl.Piece{Len: 258, Back: 1024}), far[1:]+far[1:259], true)
	checkWhole(t, with(far, impl.Piece{Len: 3, Back: 1025}), "", false)
	checkWhole(t, with(far[2:], impl.Piece{Len: 3, Back: 1024}), "", false)
	checkWhole(t, with("ab", impl.Piece{Len: 3, Back: 3}), "", false)
	checkWhole(t, with("", impl.Piece{Len: 3, Back: 1}), "", false)
	checkWhole(t, with("", impl.Piece{Len: 3, Back: 1}, impl.Piece{Byte: 'a'}), "", false)
}

func TestWholeRefusesWhatIsNeither(t *testing.T) {
	neither := []impl.Piece{
		{Byte: -1}, {Byte: 256}, {Byte: math.MinInt}, {Byte: math.MaxInt},
		{Len: 3}, {Back: 1}, {Byte: 97, Back: 1}, {Byte: 97, Len: 3}, {Byte: 97, Len: 3, Back: 1}, {Byte: -1, Len: 3, Back: 1},
		{Len: 1, Back: 1}, {Len: 2, Back: 1}, {Len: 259, Back: 1}, {Len: -3, Back: 1}, {Len: 3, Back: -1}, {Len: -3, Back: -1},
		{Len: math.MaxInt, Back: 1}, {Len: math.MinInt, Back: 1}, {Len: 3, Back: math.MaxInt}, {Len: 3, Back: math.MinInt},
		{Len: math.MaxInt, Back: math.MaxInt}, {Len: math.MinInt, Back: math.MinInt},
	}
	for _, p := range neither {
		checkWhole(t, []impl.Piece{p}, "", false)
		checkWhole(t, append(piecesOf("abcd"), p), "", false)
		checkWhole(t, append(piecesOf("abcd"), p, impl.Piece{Byte: 'e'}), "", false)
	}
}

func TestWholeKeepsItsBound(t *testing.T) {
	most := strings.Repeat("a", impl.MaxPlain)
	copied := append(piecesOf(most[:impl.MaxPlain-258]), impl.Piece{Len: 258, Back: 1})
	checkWhole(t, piecesOf(most), most, true)
	checkWhole(t, piecesOf(most+"a"), "", false)
	checkWhole(t, copied, most, true)
	checkWhole(t, append(slices.Clone(copied), impl.Piece{Byte: 'a'}), "", false)
	checkWhole(t, append(slices.Clone(copied), impl.Piece{Len: 3, Back: 1}), "", false)
	checkWhole(t, append([]impl.Piece{{Byte: 'a'}}, copied...), "", false)
	checkWhole(t, append(piecesOf(most[:impl.MaxPlain-3]), impl.Piece{Len: 3, Back: 1024}), most, true)
	checkWhole(t, append(piecesOf(most[:impl.MaxPlain-2]), impl.Piece{Len: 3, Back: 1024}), "", false)
	checkWhole(t, append(piecesOf(most[:impl.MaxPlain-258]), slices.Repeat([]impl.Piece{{Len: 258, Back: 1}}, 5000)...), "", false)
}

func TestLenCode(t *testing.T) {
	wants := map[int][3]int{}
	for i, base := range lenBases {
		for told := range 1 << lenMores[i] {
			wants[base+told] = [3]int{257 + i, lenMores[i], told}
		}
	}
	wants[258] = [3]int{285, 0, 0}
	for n := -300; n <= 600; n++ {
		checkCode(t, "LenCode", impl.LenCode, n, wants)
	}
	for _, n := range edgeNumbers {
		checkCode(t, "LenCode", impl.LenCode, n, wants)
	}
	for n, want := range map[int][3]int{2: {-1, 0, 0}, 3: {257, 0, 0}, 10: {264, 0, 0}, 11: {265, 1, 0}, 226: {283, 5, 31}, 227: {284, 5, 0}, 257: {284, 5, 30}, 258: {285, 0, 0}, 259: {-1, 0, 0}} {
		checkCode(t, "LenCode", impl.LenCode, n, map[int][3]int{n: want})
	}
}

func TestBackCode(t *testing.T) {
	wants := map[int][3]int{}
	for i, base := range backBases {
		for told := range 1 << backMores[i] {
			wants[base+told] = [3]int{i, backMores[i], told}
		}
	}
	for d := -100; d <= 40000; d++ {
		checkCode(t, "BackCode", impl.BackCode, d, wants)
	}
	for _, d := range edgeNumbers {
		checkCode(t, "BackCode", impl.BackCode, d, wants)
	}
	for d, want := range map[int][3]int{0: {-1, 0, 0}, 1: {0, 0, 0}, 4: {3, 0, 0}, 5: {4, 1, 0}, 24577: {29, 13, 0}, 32768: {29, 13, 8191}, 32769: {-1, 0, 0}} {
		checkCode(t, "BackCode", impl.BackCode, d, map[int][3]int{d: want})
	}
}

func checkCode(t *testing.T, name string, of func(int) (int, int, int), n int, wants map[int][3]int) {
	t.Helper()
	want, known := wants[n]
	if !known {
		want = [3]int{-1, 0, 0}
	}
	code, more, told := of(n)
	if got := [3]int{code, more, told}; got != want {
		t.Errorf("%s(%d) = %v, want %v", name, n, got, want)
	}
}

func spell(list []int) string {
	b := strings.Builder{}
	for _, n := range list {
		b.WriteString(strconv.Itoa(n))
	}
	return b.String()
}

func TestFixedCode(t *testing.T) {
	for sym := range 286 {
		if got, want := spell(impl.FixedCode(sym)), fixedBits(sym); got != want {
			t.Errorf("FixedCode(%d) = %s, want %s", sym, got, want)
		}
	}
	for sym, want := range map[int]string{0: "00110000", 143: "10111111", 144: "110010000", 255: "111111111", 256: "0000000", 279: "0010111", 280: "11000000", 285: "11000101"} {
		if got := spell(impl.FixedCode(sym)); got != want {
			t.Errorf("FixedCode(%d) = %s, want %s", sym, got, want)
		}
	}
	for _, sym := range []int{math.MinInt, -256, -2, -1, 286, 287, 288, 512, math.MaxInt} {
		if got := impl.FixedCode(sym); len(got) != 0 {
			t.Errorf("FixedCode(%d) = %v, want nothing", sym, got)
		}
	}
}

func wantPack(s string) string {
	bits := []string{lastFixed}
	for _, p := range wantPieces(s) {
		if p.Len == 0 {
			bits = append(bits, fixedBits(p.Byte))
		} else {
			bits = append(bits, lenBits(p.Len), backBits(p.Back))
		}
	}
	return bytesOf(append(bits, endOfBlock)...)
}

func TestPack(t *testing.T) {
	for _, s := range plainTexts() {
		if got, ok := impl.Pack(s); got != wantPack(s) || !ok {
			t.Errorf("Pack(%.40q) = %.40q, %t, want %.40q, true", s, got, ok, wantPack(s))
		}
	}
	if got, ok := impl.Pack(strings.Repeat("a", impl.MaxPlain+1)); got != "" || ok {
		t.Errorf("Pack of a byte more than MaxPlain = %.40q, %t, want nothing, false", got, ok)
	}
}

func TestWhatIsPackedIsReadByOthers(t *testing.T) {
	for _, s := range plainTexts() {
		for name, pack := range map[string]func(string) (string, bool){"Pack": impl.Pack, "Stored": impl.Stored} {
			packed, _ := pack(s)
			got, err := io.ReadAll(flate.NewReader(strings.NewReader(packed)))
			if string(got) != s || err != nil {
				t.Errorf("%s(%.40q) is read as %.40q, %v", name, s, got, err)
			}
		}
	}
}

func checkUnpack(t *testing.T, s, want string, code int) {
	t.Helper()
	if got, said := impl.Unpack(s); got != want || said != code {
		t.Errorf("Unpack(%d bytes %.60q) = %d bytes %.40q, %d, want %d bytes %.40q, %d", len(s), s, len(got), got, said, len(want), want, code)
	}
}

func TestATextComesBackFromWhatWasPackedOfIt(t *testing.T) {
	for _, s := range plainTexts() {
		packed, _ := impl.Pack(s)
		checkUnpack(t, packed, s, impl.PackOk)
		stored, _ := impl.Stored(s)
		checkUnpack(t, stored, s, impl.PackOk)
	}
}

func TestStored(t *testing.T) {
	for _, s := range plainTexts() {
		if got, ok := impl.Stored(s); got != storedText(len(s), 65535-len(s), s) || !ok {
			t.Errorf("Stored(%.40q) = %.40q, %t", s, got, ok)
		}
	}
	if got, ok := impl.Stored(strings.Repeat("a", impl.MaxPlain+1)); got != "" || ok {
		t.Errorf("Stored of a byte more than MaxPlain = %.40q, %t, want nothing, false", got, ok)
	}
}

func TestUnpackOfEveryHead(t *testing.T) {
	for head := range 256 {
		s := string([]byte{byte(head)}) + "\x00\x00\xff\xff"
		switch head % 8 {
		case 1:
			checkUnpack(t, s, "", impl.PackOk)
		case 3:
			want, code := wantUnpack(s)
			checkUnpack(t, s, want, code)
		default:
			checkUnpack(t, s, "", impl.PackKind)
			checkUnpack(t, s[:1], "", impl.PackKind)
		}
	}
	checkUnpack(t, "", "", impl.PackCut)
}

func TestUnpackReadsOtherPackings(t *testing.T) {
	far := mixedText(4, 2000, 256)
	same := strings.Repeat("a", 300)
	checkUnpack(t, bytesOf(lastFixed, textBits("abcabc"), endOfBlock), "abcabc", impl.PackOk)
	checkUnpack(t, bytesOf(lastFixed, textBits("ab"), lenBits(5), backBits(2), endOfBlock), "abababa", impl.PackOk)
	checkUnpack(t, bytesOf(lastFixed, textBits("a"), lenBits(258), backBits(1), endOfBlock), same[:259], impl.PackOk)
	checkUnpack(t, bytesOf(lastFixed, textBits("a"), fixedBits(284), "11110", backBits(1), endOfBlock), same[:1+242], impl.PackOk)
	checkUnpack(t, bytesOf(lastFixed, textBits("a"), fixedBits(284), "11111", backBits(1), endOfBlock), same[:259], impl.PackOk)
	checkUnpack(t, bytesOf(lastFixed, textBits(far), lenBits(3), backBits(1024), endOfBlock), far+far[976:979], impl.PackOk)
	checkUnpack(t, bytesOf(lastFixed, textBits(far), lenBits(3), backBits(1025), endOfBlock), far+far[975:978], impl.PackOk)
	checkUnpack(t, bytesOf(lastFixed, textBits(far), lenBits(100), backBits(2000), endOfBlock), far+far[:100], impl.PackOk)
}

func TestUnpackReadsEveryLengthAndEveryBack(t *testing.T) {
	far := mixedText(5, 2500, 256)
	for n := 3; n <= 258; n++ {
		checkUnpack(t, bytesOf(lastFixed, textBits(far[:300]), lenBits(n), backBits(290), endOfBlock), far[:300]+far[10:10+n], impl.PackOk)
	}
	for back := 1; back <= len(far); back += 1 + back/20 {
		want := far
		for range 5 {
			want += want[len(want)-back : len(want)-back+1]
		}
		checkUnpack(t, bytesOf(lastFixed, textBits(far), lenBits(5), backBits(back), endOfBlock), want, impl.PackOk)
	}
}

func TestUnpackReadsNothingBehindTheEnd(t *testing.T) {
	for nines := range 9 {
		ahead := strings.Repeat("\xff", nines)
		bits := lastFixed + textBits(ahead) + endOfBlock
		checkUnpack(t, bytesOf(bits), ahead, impl.PackOk)
		for behind := 0; (len(bits)+behind)%8 != 0; behind++ {
			checkUnpack(t, bytesOf(bits, strings.Repeat("0", behind), "1"), "", impl.PackRest)
		}
		for _, more := range []string{"\x00", "\x01", "\xff", "\x00\x00", "\x03\x00", strings.Repeat("\x00", 1000)} {
			checkUnpack(t, bytesOf(bits)+more, "", impl.PackRest)
		}
	}
	for _, s := range []string{"", "ab", strings.Repeat("a", impl.MaxPlain)} {
		stored := storedText(len(s), 65535-len(s), s)
		checkUnpack(t, stored, s, impl.PackOk)
		for _, more := range []string{"\x00", "\x01", "\xff", bytesOf(lastFixed, endOfBlock)} {
			checkUnpack(t, stored+more, "", impl.PackRest)
		}
	}
}

// Bits run out at whole bytes alone; with so many codes of nine bits ahead the
// border comes to lie at each bit of what follows.
func TestUnpackMissesBitsAtEachPlace(t *testing.T) {
	follow := textBits("ab") + lenBits(226) + backBits(9) + textBits("\xfe") + lenBits(258) + backBits(1) + lenBits(12) + backBits(230) + endOfBlock
	for nines := 8; nines < 16; nines++ {
		bits := lastFixed + textBits(strings.Repeat("\xfd", nines)) + follow
		whole := bytesOf(bits)
		for cut := range len(whole) {
			checkUnpack(t, whole[:cut], "", impl.PackCut)
		}
		if got, said := impl.Unpack(whole); len(got) != nines+2+226+1+258+12 || said != impl.PackOk {
			t.Errorf("Unpack of the whole = %d bytes, %d", len(got), said)
		}
	}
	stored := storedText(3, 65532, "abc")
	for cut := range len(stored) {
		checkUnpack(t, stored[:cut], "", impl.PackCut)
	}
}

func TestUnpackMeetsSymbolsThatTellNothing(t *testing.T) {
	for _, sym := range []int{286, 287} {
		checkUnpack(t, bytesOf(lastFixed, fixedBits(sym)), "", impl.PackSym)
		checkUnpack(t, bytesOf(lastFixed, textBits("abc"), fixedBits(sym), backBits(1), endOfBlock), "", impl.PackSym)
		checkUnpack(t, bytesOf(lastFixed, textBits(strings.Repeat("a", impl.MaxPlain)), fixedBits(sym), endOfBlock), "", impl.PackSym)
	}
	for _, code := range []int{30, 31} {
		checkUnpack(t, bytesOf(lastFixed, textBits("abc"), lenBits(3), highBits(code, 5)), "", impl.PackSym)
		checkUnpack(t, bytesOf(lastFixed, lenBits(3), highBits(code, 5), endOfBlock), "", impl.PackSym)
		checkUnpack(t, bytesOf(lastFixed, textBits("\xff\xff\xff"), lenBits(257), highBits(code, 5), endOfBlock), "", impl.PackSym)
	}
}

func TestUnpackMeetsCopiesAheadOfTheBeginning(t *testing.T) {
	far := mixedText(6, 1300, 256)
	checkUnpack(t, bytesOf(lastFixed, lenBits(3), backBits(1), endOfBlock), "", impl.PackBack)
	checkUnpack(t, bytesOf(lastFixed, textBits("ab"), lenBits(3), backBits(3), endOfBlock), "", impl.PackBack)
	checkUnpack(t, bytesOf(lastFixed, textBits("ab"), lenBits(3), backBits(3), textBits("c")), "", impl.PackBack)
	checkUnpack(t, bytesOf(lastFixed, textBits("ab"), lenBits(3), backBits(2), endOfBlock), "ababa", impl.PackOk)
	checkUnpack(t, bytesOf(lastFixed, textBits(far), lenBits(3), backBits(1301), endOfBlock), "", impl.PackBack)
	checkUnpack(t, bytesOf(lastFixed, textBits(far), lenBits(3), backBits(1300), endOfBlock), far+far[:3], impl.PackOk)
	checkUnpack(t, bytesOf(lastFixed, textBits(far), lenBits(3), backBits(32768), endOfBlock), "", impl.PackBack)
	checkUnpack(t, bytesOf(lastFixed, textBits("abc"), lenBits(3), highBits(29, 5)), "", impl.PackCut)
}

func TestUnpackKeepsItsBound(t *testing.T) {
	most := strings.Repeat("a", impl.MaxPlain)
	filled := lastFixed + textBits(most)
	checkUnpack(t, bytesOf(filled, endOfBlock), most, impl.PackOk)
	checkUnpack(t, bytesOf(filled, textBits("b"), endOfBlock), "", impl.PackLong)
	checkUnpack(t, bytesOf(filled, textBits("b")), "", impl.PackLong)
	checkUnpack(t, bytesOf(filled, lenBits(3), backBits(1), endOfBlock), "", impl.PackLong)
	checkUnpack(t, bytesOf(filled, lenBits(3), backBits(3001), endOfBlock), "", impl.PackBack)
	checkUnpack(t, bytesOf(filled, lenBits(3), highBits(30, 5), endOfBlock), "", impl.PackSym)
	for _, n := range []int{3, 10, 11, 226, 227, 257, 258} {
		ahead := lastFixed + textBits(most[:impl.MaxPlain-n])
		checkUnpack(t, bytesOf(ahead, lenBits(n), backBits(1), endOfBlock), most, impl.PackOk)
		checkUnpack(t, bytesOf(lastFixed, textBits(most[:impl.MaxPlain+1-n]), lenBits(n), backBits(1), endOfBlock), "", impl.PackLong)
	}
	many := lastFixed + textBits("a") + strings.Repeat(lenBits(258)+backBits(1), 3000)
	checkUnpack(t, bytesOf(many), "", impl.PackLong)
}

func TestUnpackTakesSoManyBytesAlone(t *testing.T) {
	most := bytesOf(lastFixed, endOfBlock) + strings.Repeat("\x00", impl.MaxPacked-2)
	checkUnpack(t, most, "", impl.PackRest)
	checkUnpack(t, most+"\x00", "", impl.PackLong)
	checkUnpack(t, strings.Repeat("\x07", impl.MaxPacked), "", impl.PackKind)
	checkUnpack(t, strings.Repeat("\x07", impl.MaxPacked+1), "", impl.PackLong)
	checkUnpack(t, strings.Repeat("\x00", 1<<20), "", impl.PackLong)
}

func TestUnpackOfStoredBlocks(t *testing.T) {
	most := mixedText(7, impl.MaxPlain, 256)
	for head := 1; head < 256; head += 8 {
		checkUnpack(t, string([]byte{byte(head)})+storedText(2, 65533, "ab")[1:], "ab", impl.PackOk)
	}
	checkUnpack(t, storedText(impl.MaxPlain, 65535-impl.MaxPlain, most), most, impl.PackOk)
	checkUnpack(t, storedText(impl.MaxPlain, 65535-impl.MaxPlain, most[1:]), "", impl.PackCut)
	checkUnpack(t, storedText(impl.MaxPlain+1, 65534-impl.MaxPlain, most+"a"), "", impl.PackLong)
	checkUnpack(t, storedText(impl.MaxPlain+1, 65534-impl.MaxPlain, ""), "", impl.PackLong)
	checkUnpack(t, storedText(65535, 0, ""), "", impl.PackLong)
	checkUnpack(t, storedText(65535, 1, ""), "", impl.PackSym)
	checkUnpack(t, storedText(impl.MaxPlain+1, 65535-impl.MaxPlain, most), "", impl.PackSym)
	for bit := range 16 {
		checkUnpack(t, storedText(2, 65533^1<<bit, "ab"), "", impl.PackSym)
		checkUnpack(t, storedText(2, 65533^1<<bit, ""), "", impl.PackSym)
		checkUnpack(t, storedText(2^1<<bit, 65533, "ab"), "", impl.PackSym)
	}
	checkUnpack(t, storedText(2, 2, "ab"), "", impl.PackSym)
	checkUnpack(t, storedText(2, 65533, "a"), "", impl.PackCut)
	checkUnpack(t, storedText(2, 65533, "abc"), "", impl.PackRest)
}

// plainReader reads bits as letters, one state after the other.
type plainReader struct {
	bits string
	made []byte
}

func (r *plainReader) take(n int) (string, bool) {
	if n > len(r.bits) {
		r.bits = ""
		return "", false
	}
	head := r.bits[:n]
	r.bits = r.bits[n:]
	return head, true
}

func (r *plainReader) lowNumber(n int) (int, bool) {
	head, ok := r.take(n)
	sum := 0
	for i := range len(head) {
		sum += int(head[i]-'0') << i
	}
	return sum, ok
}

func (r *plainReader) symbol() (int, bool) {
	for n := 7; n <= 9 && n <= len(r.bits); n++ {
		if sym, known := symbolsByBits[r.bits[:n]]; known {
			r.bits = r.bits[n:]
			return sym, true
		}
	}
	return 0, false
}

var symbolsByBits = func() map[string]int {
	m := map[string]int{}
	for sym := range 288 {
		m[fixedBits(sym)] = sym
	}
	return m
}()

func (r *plainReader) fixed() int {
	for {
		sym, ok := r.symbol()
		switch {
		case !ok:
			return impl.PackCut
		case sym == 256:
			return impl.PackOk
		case sym > 285:
			return impl.PackSym
		case sym < 256:
			if len(r.made) == 3000 {
				return impl.PackLong
			}
			r.made = append(r.made, byte(sym))
			continue
		}
		if said := r.copied(sym - 257); said != impl.PackOk {
			return said
		}
	}
}

func (r *plainReader) copied(i int) int {
	n, ok := r.lowNumber(lenMores[i])
	code, there := r.take(5)
	if !ok || !there {
		return impl.PackCut
	}
	j, _ := strconv.ParseInt(code, 2, 64)
	if j > 29 {
		return impl.PackSym
	}
	d, ok := r.lowNumber(backMores[j])
	if !ok {
		return impl.PackCut
	}
	n, d = n+lenBases[i], d+backBases[j]
	if d > len(r.made) {
		return impl.PackBack
	}
	if len(r.made)+n > 3000 {
		return impl.PackLong
	}
	for range n {
		r.made = append(r.made, r.made[len(r.made)-d])
	}
	return impl.PackOk
}

func (r *plainReader) stored() int {
	r.take(5)
	n, _ := r.lowNumber(16)
	turned, ok := r.lowNumber(16)
	switch {
	case !ok:
		return impl.PackCut
	case n+turned != 65535 || n&turned != 0:
		return impl.PackSym
	case n > 3000:
		return impl.PackLong
	}
	for range n {
		b, ok := r.lowNumber(8)
		if !ok {
			return impl.PackCut
		}
		r.made = append(r.made, byte(b))
	}
	return impl.PackOk
}

func wantUnpack(s string) (string, int) {
	if len(s) > 6000 {
		return "", impl.PackLong
	}
	r := &plainReader{bits: bitsOf(s)}
	head, ok := r.take(3)
	said := impl.PackKind
	switch {
	case !ok:
		said = impl.PackCut
	case head == lastFixed:
		said = r.fixed()
	case head == lastStored:
		said = r.stored()
	}
	if said == impl.PackOk && (len(r.bits) >= 8 || strings.Contains(r.bits, "1")) {
		said = impl.PackRest
	}
	if said != impl.PackOk {
		return "", said
	}
	return string(r.made), impl.PackOk
}

func TestUnpackOfEveryTwoBytes(t *testing.T) {
	for n := range 1 << 16 {
		s := string([]byte{byte(n), byte(n >> 8)})
		want, code := wantUnpack(s)
		checkUnpack(t, s, want, code)
	}
}

func TestUnpackOfAnyBytes(t *testing.T) {
	r := rand.New(rand.NewSource(8))
	seen := map[int]int{}
	for range 60000 {
		b := make([]byte, r.Intn(24))
		for i := range b {
			b[i] = byte(r.Intn(256)) & byte(r.Intn(256)|r.Intn(256))
		}
		if len(b) > 0 {
			b[0] = b[0]&^7 | 3
		}
		want, code := wantUnpack(string(b))
		seen[code]++
		checkUnpack(t, string(b), want, code)
	}
	for _, code := range []int{impl.PackOk, impl.PackCut, impl.PackSym, impl.PackBack, impl.PackRest} {
		if seen[code] == 0 {
			t.Errorf("no text of code %d was tried", code)
		}
	}
}

func TestUnpackOfWhatIsChangedInOneBit(t *testing.T) {
	texts := []string{"", "a", "abcabcabcabd", "\xff\x00\xff\x00\xff\x00\xff", strings.Repeat("ab", 1500), mixedText(3, 300, 3)}
	for _, plain := range texts {
		for _, pack := range []func(string) (string, bool){impl.Pack, impl.Stored} {
			s, _ := pack(plain)
			for bit := range min(len(s), 150) * 8 {
				b := []byte(s)
				b[bit/8] ^= 1 << (bit % 8)
				want, code := wantUnpack(string(b))
				checkUnpack(t, string(b), want, code)
			}
		}
	}
}

func TestPackingWritesIntoNoArgument(t *testing.T) {
	room := append(piecesOf("abc"), impl.Piece{Len: 5, Back: 2}, impl.Piece{Byte: 'x'}, impl.Piece{Byte: 'y'})
	kept := slices.Clone(room)
	for n := range room {
		impl.Whole(room[:n])
	}
	if !slices.Equal(room, kept) {
		t.Errorf("Whole wrote into its list: %v, want %v", room, kept)
	}
}

func TestPackingAnswersNewMemory(t *testing.T) {
	bits := impl.FixedCode(65)
	for i := range bits {
		bits[i] = 7
	}
	if got := spell(impl.FixedCode(65)); got != fixedBits(65) {
		t.Errorf("FixedCode(65) = %s after an earlier answer was changed", got)
	}
	pieces := impl.Pieces("abcabc")
	clear(pieces)
	if got := impl.Pieces("abcabc"); !slices.Equal(got, wantPieces("abcabc")) {
		t.Errorf("Pieces = %v after an earlier answer was changed", got)
	}
}

func TestPackingAnswersAtAnyArguments(t *testing.T) {
	for _, a := range edgeNumbers {
		impl.FixedCode(a)
		impl.LenCode(a)
		impl.BackCode(a)
		for _, b := range edgeNumbers {
			for _, c := range edgeNumbers {
				impl.Whole([]impl.Piece{{Byte: 1}, {Byte: a, Len: b, Back: c}})
			}
		}
	}
	for _, s := range append(signTexts(), strings.Repeat("\x00", 100000)) {
		impl.Pieces(s)
		impl.Pack(s)
		impl.Stored(s)
		impl.Unpack(s)
	}
}
