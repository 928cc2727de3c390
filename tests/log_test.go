package tests

import (
	"encoding/binary"
	"fmt"
	"hash/crc32"
	"math"
	"math/rand"
	"regexp"
	"slices"
	"strconv"
	"strings"
	"testing"
	"unsafe"

	"loop.example/g00211/impl"
)

const (
	mostRecord = 3000
	recordHead = 8
	mostLog    = 200000
	mostWanted = 999999999
)

// toldRecord is a record that tells another length or sum than it has.
func toldRecord(length int, sum uint32, text string) string {
	head := binary.BigEndian.AppendUint32(nil, uint32(length))
	return string(binary.BigEndian.AppendUint32(head, sum)) + text
}

// recordOf also makes one of a text that is too long to be written down.
func recordOf(text string) string {
	return toldRecord(len(text), crc32.ChecksumIEEE([]byte(text)), text)
}

func logOf(texts ...string) string {
	log := ""
	for _, s := range texts {
		log += recordOf(s)
	}
	return log
}

func wantRecords(log string) ([]string, int) {
	list, end := []string{}, 0
	for len(log) <= mostLog && len(log) >= end+recordHead {
		head := []byte(log[end : end+recordHead])
		from := end + recordHead
		size := int(binary.BigEndian.Uint32(head))
		if size > mostRecord || from+size > len(log) || crc32.ChecksumIEEE([]byte(log[from:from+size])) != binary.BigEndian.Uint32(head[4:]) {
			break
		}
		list = append(list, log[from:from+size])
		end = from + size
	}
	return list, end
}

// clip keeps what is said of a great text short.
func clip(s string) string {
	if len(s) > 60 {
		return fmt.Sprintf("%q.. (%d bytes)", s[:60], len(s))
	}
	return strconv.Quote(s)
}

func checkTexts(t *testing.T, log string, end int, texts ...string) {
	t.Helper()
	list, got := impl.Records(log)
	if got != end || !slices.Equal(list, texts) {
		t.Fatalf("Records(%s) = %d texts, %d; want %d texts, %d", clip(log), len(list), got, len(texts), end)
	}
}

func checkRecords(t *testing.T, log string) {
	t.Helper()
	texts, end := wantRecords(log)
	checkTexts(t, log, end, texts...)
}

func checkWholeLog(t *testing.T, texts ...string) {
	t.Helper()
	log := logOf(texts...)
	checkTexts(t, log, len(log), texts...)
}

func checkRecord(t *testing.T, s string) {
	t.Helper()
	want, will := recordOf(s), len(s) <= mostRecord
	if !will {
		want = ""
	}
	if got, ok := impl.Record(s); got != want || ok != will {
		t.Fatalf("Record(%s) = %s, %t; want %s, %t", clip(s), clip(got), ok, clip(want), will)
	}
}

func checkAppend(t *testing.T, log, s string) (string, bool) {
	t.Helper()
	want, will := log+recordOf(s), true
	if len(s) > mostRecord || len(want) > mostLog {
		want, will = log, false
	}
	got, ok := impl.Append(log, s)
	if got != want || ok != will {
		t.Fatalf("Append(%s, %s) = %s, %t; want %s, %t", clip(log), clip(s), clip(got), ok, clip(want), will)
	}
	return got, ok
}

func checkAppended(t *testing.T, log, s string, want bool) {
	t.Helper()
	if _, ok := checkAppend(t, log, s); ok != want {
		t.Fatalf("Append(%s, %s) says %t", clip(log), clip(s), ok)
	}
}

func checkTorn(t *testing.T, log string, n int, want string) {
	t.Helper()
	if got := impl.Torn(log, n); got != want {
		t.Fatalf("Torn(%s, %d) = %s; want %s", clip(log), n, clip(got), clip(want))
	}
}

// someTexts are told apart by their lengths and have lengths of one and of
// two bytes, and bytes of all kinds.
func someTexts() []string {
	all := ""
	for b := range 256 {
		all += string([]byte{byte(b)})
	}
	return []string{"ab", "", "a", "\x00", "\x00\x00\x00\x00\x00\x00\x00\x00", "0 1 0 2 0 1 10 14 1 3 B C", "", "", "\n", all, all[:255], "x"}
}

func TestLogConstants(t *testing.T) {
	if impl.MaxLog != mostLog {
		t.Errorf("MaxLog = %d", impl.MaxLog)
	}
}

func TestRecordsAreSpelt(t *testing.T) {
	for s, want := range map[string]string{
		"":                       "\x00\x00\x00\x00\x00\x00\x00\x00",
		"ab":                     "\x00\x00\x00\x02\x9e\x83\x48\x6dab",
		"123456789":              "\x00\x00\x00\x09\xcb\xf4\x39\x26123456789",
		"\xff\xff\xff\xff":       "\x00\x00\x00\x04\xff\xff\xff\xff\xff\xff\xff\xff",
		"\x9d\x0a\xd9\x6d":       "\x00\x00\x00\x04\x00\x00\x00\x00\x9d\x0a\xd9\x6d",
		strings.Repeat("a", 256): "\x00\x00\x01\x00\xb0\x7d\x36\x59" + strings.Repeat("a", 256),
	} {
		if got, ok := impl.Record(s); got != want || !ok {
			t.Errorf("Record(%s) = %s, %t; want %s", clip(s), clip(got), ok, clip(want))
		}
		checkTexts(t, want, len(want), s)
		checkTexts(t, want+want, 2*len(want), s, s)
	}
}

func TestRecordsAtTheirBounds(t *testing.T) {
	for _, n := range []int{0, 1, 2, 255, 256, 2999, 3000, 3001, 3002, 4096, 65535, 65536, mostLog, mostLog + 1} {
		for _, s := range []string{strings.Repeat("a", n), strings.Repeat("\x00", n), strings.Repeat("\xff", n)} {
			checkRecord(t, s)
			checkAppend(t, "", s)
			checkAppend(t, logOf("ab", ""), s)
			checkRecords(t, recordOf(s))
			checkRecords(t, logOf("ab", s, "c"))
		}
	}
	if r, ok := impl.Record(strings.Repeat("a", 3000)); len(r) != 3008 || !ok {
		t.Errorf("a record of 3000 bytes has %d, %t", len(r), ok)
	}
	if r, ok := impl.Record(strings.Repeat("a", 3001)); r != "" || ok {
		t.Errorf("a record of 3001 bytes: %s, %t", clip(r), ok)
	}
}

func TestRecordsOfEveryLength(t *testing.T) {
	text := strings.Repeat("some words ", 300)
	for n := range 3003 {
		checkRecord(t, text[:n])
		if n <= mostRecord {
			checkWholeLog(t, text[:n])
		}
	}
}

func TestRecordsThatAreAppendedAreRead(t *testing.T) {
	r := rand.New(rand.NewSource(10))
	for range 60 {
		log, texts := "", []string{}
		for range r.Intn(25) {
			bytes := make([]byte, []int{0, 1, 2, 40, 300, 3000}[r.Intn(6)])
			r.Read(bytes)
			s := string(bytes)
			texts = append(texts, s)
			grown, ok := checkAppend(t, log, s)
			if !ok || grown != log+recordOf(s) {
				t.Fatalf("Append(%s, %s) = %s, %t", clip(log), clip(s), clip(grown), ok)
			}
			log = grown
			checkTexts(t, log, len(log), texts...)
		}
	}
}

func TestALogOfNoBytes(t *testing.T) {
	checkTexts(t, "", 0)
	checkTorn(t, "", 0, "")
	checkTorn(t, "", 1, "")
	checkAppended(t, "", "", true)
	checkTexts(t, "\x00\x00\x00\x00\x00\x00\x00\x00", 8, "")
	checkTexts(t, strings.Repeat("\x00", 24), 24, "", "", "")
	checkTexts(t, strings.Repeat("\x00", 31), 24, "", "", "")
}

func TestALogThatIsCutOffAtAnyByte(t *testing.T) {
	texts := someTexts()
	log, ends := "", []int{0}
	for _, s := range texts {
		log += recordOf(s)
		ends = append(ends, len(log))
	}
	whole := 0
	for n := range len(log) + 1 {
		if whole < len(texts) && n >= ends[whole+1] {
			whole++
		}
		checkTorn(t, log, n, log[:n])
		checkTexts(t, impl.Torn(log, n), ends[whole], texts[:whole]...)
	}
	if whole != len(texts) {
		t.Errorf("%d of %d", whole, len(texts))
	}
}

func TestALogWithoutItsLastBytes(t *testing.T) {
	ahead := logOf("ab", "")
	for _, last := range []string{"a", "abc", strings.Repeat("x", 300), strings.Repeat("\x00", 3000)} {
		log := ahead + recordOf(last)
		checkTexts(t, log, len(log), "ab", "", last)
		checkTexts(t, log[:len(log)-1], len(ahead), "ab", "")
		checkTexts(t, log[:len(log)-len(last)], len(ahead), "ab", "")
		for n := range recordHead {
			checkTexts(t, log[:len(ahead)+n], len(ahead), "ab", "")
		}
	}
}

// What was cut off must not be filled up with what is written behind it.
func TestWhatIsWrittenBehindATornRecordIsNotRead(t *testing.T) {
	for _, n := range []int{1, 7, 8, 9, 10, 11} {
		torn := logOf("ab") + recordOf("wxyz")[:n]
		log, ok := checkAppend(t, torn, "next")
		if !ok || log != torn+recordOf("next") {
			t.Fatalf("Append(%s) = %s, %t", clip(torn), clip(log), ok)
		}
		checkTexts(t, log, len(logOf("ab")), "ab")
		_, end := impl.Records(log)
		again, _ := checkAppend(t, impl.Torn(log, end), "next")
		checkTexts(t, again, len(logOf("ab", "next")), "ab", "next")
	}
}

func TestARecordWithOneByteChanged(t *testing.T) {
	texts := []string{"ab", "", strings.Repeat("k", 260), "\x00", "last"}
	log, at := logOf(texts...), 0
	for i, s := range texts {
		record := recordOf(s)
		for j := range len(record) {
			for b := 1; b < 256; b++ {
				changed := []byte(log)
				changed[at+j] ^= byte(b)
				checkTexts(t, string(changed), at, texts[:i]...)
			}
		}
		at += len(record)
	}
}

func TestNothingIsReadBehindAWrongRecord(t *testing.T) {
	for i, wrong := range []string{
		toldRecord(2, crc32.ChecksumIEEE([]byte("ac")), "ab"),
		toldRecord(2, ^crc32.ChecksumIEEE([]byte("ab")), "ab"),
		toldRecord(2, 0, "ab"),
		toldRecord(0, 1, ""),
		toldRecord(0, math.MaxUint32, ""),
		toldRecord(3001, crc32.ChecksumIEEE(make([]byte, 3001)), strings.Repeat("\x00", 3001)),
		toldRecord(math.MaxUint32, 0, ""),
		"x", "\x00",
	} {
		behind := logOf("c", "", "defg")
		checkTexts(t, wrong+behind, 0)
		checkTexts(t, logOf("ab")+wrong+behind, 10, "ab")
		checkTexts(t, logOf("ab", "", "c")+wrong, 27, "ab", "", "c")
		checkRecords(t, wrong+wrong+behind)
		if got, ok := impl.Append(wrong, "c"); !ok || got != wrong+recordOf("c") {
			t.Errorf("Append behind wrong record %d: %s, %t", i, clip(got), ok)
		}
	}
}

// The bytes of a sum stand in their order, and all of them count.
func TestSumsThatAreToldOtherwise(t *testing.T) {
	sum := crc32.ChecksumIEEE([]byte("ab"))
	for shift := range 32 {
		checkTexts(t, toldRecord(2, sum^1<<shift, "ab"), 0)
	}
	for _, s := range []string{"\x00\x00\x00\x02\x6d\x48\x83\x9eab", "\x02\x00\x00\x00\x9e\x83\x48\x6dab", "\x9e\x83\x48\x6d\x00\x00\x00\x02ab", "ab\x00\x00\x00\x02\x9e\x83\x48\x6d"} {
		checkTexts(t, s, 0)
	}
}

func TestMoreBytesToldThanARecordMayHave(t *testing.T) {
	for _, n := range []int{3001, 3002, 4096, 65536, 100000, mostLog - 2*recordHead - 2} {
		text := strings.Repeat("x", n)
		checkTexts(t, recordOf(text), 0)
		checkTexts(t, logOf("ab")+recordOf(text), 10, "ab")
	}
	checkWholeLog(t, "ab", strings.Repeat("x", 3000), "", strings.Repeat("y", 2999), "c")
}

func TestALengthThatIsToldOtherwise(t *testing.T) {
	sum := crc32.ChecksumIEEE([]byte("abc"))
	for _, n := range []int{4, 5, 11, 12, 255, 256, 259, 2999, 3000, 3001, 65536 + 3, 1<<24 + 3, math.MaxInt32, 1<<31 + 3, math.MaxUint32} {
		checkTexts(t, toldRecord(n, sum, "abc"), 0)
		checkTexts(t, logOf("ab")+toldRecord(n, sum, "abc"), 10, "ab")
		checkTexts(t, logOf("ab")+toldRecord(n, sum, "abc")+logOf("c"), 10, "ab")
	}
	for n := range 3 {
		checkTexts(t, toldRecord(n, sum, "abc"), 0)
		checkTexts(t, toldRecord(n, crc32.ChecksumIEEE([]byte("abc"[:n])), "abc"), recordHead+n, "abc"[:n])
	}
	checkTexts(t, toldRecord(recordHead+3, crc32.ChecksumIEEE([]byte("abc"+recordOf(""))), "abc"+recordOf("")), 19, "abc"+recordOf(""))
}

func TestARecordInARecord(t *testing.T) {
	inner := logOf("ab", "", "c")
	checkWholeLog(t, inner)
	checkWholeLog(t, inner, logOf(inner), "")
	checkTexts(t, recordOf(inner)[recordHead:], len(inner), "ab", "", "c")
	checkRecords(t, recordOf(inner)[1:])
}

// fullLog has the texts of a log of just n bytes.
func fullLog(n int) []string {
	texts := []string{}
	for n > 2*(mostRecord+recordHead) {
		texts = append(texts, strings.Repeat(string(rune('a'+len(texts)%26)), mostRecord))
		n -= mostRecord + recordHead
	}
	half := n / 2
	return append(texts, strings.Repeat("-", half-recordHead), strings.Repeat("+", n-half-recordHead))
}

func TestLogsAtTheirBounds(t *testing.T) {
	for _, n := range []int{mostLog - 3001, mostLog - 1, mostLog} {
		texts := fullLog(n)
		if log := logOf(texts...); len(log) != n {
			t.Fatalf("a log of %d bytes has %d", n, len(log))
		}
		checkWholeLog(t, texts...)
	}
	for _, n := range []int{mostLog + 1, mostLog + 2, mostLog + 3008, 2 * mostLog} {
		checkTexts(t, logOf(fullLog(n)...), 0)
	}
	most := fullLog(mostLog - 1)
	checkTexts(t, logOf(most...)+"\x00", mostLog-1, most...)
	checkTexts(t, logOf(most...)+"\x00\x00", 0)
	checkTexts(t, logOf(fullLog(mostLog)...)+"\x00", 0)
	checkTexts(t, strings.Repeat("x", mostLog), 0)
	checkTexts(t, strings.Repeat("x", mostLog+1), 0)
	checkTexts(t, logOf("ab")+strings.Repeat("x", mostLog-10), 10, "ab")
	checkTexts(t, logOf("ab")+strings.Repeat("x", mostLog-9), 0)
}

func TestTheMostRecordsOfALog(t *testing.T) {
	log := strings.Repeat("\x00", mostLog)
	checkTexts(t, log, mostLog, make([]string, mostLog/recordHead)...)
	checkTexts(t, log[1:], mostLog-recordHead, make([]string, mostLog/recordHead-1)...)
	checkTexts(t, log+"\x00", 0)
	checkAppended(t, log, "", false)
	checkAppended(t, log[recordHead:], "", true)
	checkAppended(t, log[recordHead-1:], "", false)
}

func TestAppendUpToTheLastByte(t *testing.T) {
	for _, s := range []string{"", "a", "ab", strings.Repeat("x", 2999), strings.Repeat("x", 3000)} {
		room := len(s) + recordHead
		for _, more := range []int{-2, -1, 0, 1, 2, room - 1, room, room + 1, mostLog} {
			n := mostLog - room + more
			for _, log := range []string{logOf(fullLog(n)...), strings.Repeat("x", n)} {
				checkAppended(t, log, s, more <= 0)
			}
		}
	}
	log := logOf(fullLog(mostLog - recordHead - 1)...)
	full, ok := checkAppend(t, log, "z")
	if !ok || len(full) != mostLog {
		t.Fatalf("a log of %d bytes, %t", len(full), ok)
	}
	list, end := impl.Records(full)
	if end != mostLog || list[len(list)-1] != "z" {
		t.Errorf("the last of %d records ends at %d", len(list), end)
	}
	checkAppended(t, log, "zz", false)
}

func TestAppendOfWhatIsNoRecord(t *testing.T) {
	for _, log := range []string{"", "x", logOf("ab", ""), logOf("ab")[:9], strings.Repeat("x", mostLog+1)} {
		for _, n := range []int{3001, 3002, mostLog, mostLog + 1} {
			checkAppended(t, log, strings.Repeat("a", n), false)
		}
	}
	checkAppended(t, "x", strings.Repeat("a", 3000), true)
}

func TestTorn(t *testing.T) {
	checkTorn(t, "abc", 0, "")
	checkTorn(t, "abc", 1, "a")
	checkTorn(t, "abc", 2, "ab")
	checkTorn(t, "abc", 3, "abc")
	checkTorn(t, "abc", 4, "abc")
	for _, log := range []string{"", "a", "abc", logOf(someTexts()...), strings.Repeat("x", mostLog), strings.Repeat("x", mostLog+1), strings.Repeat("\xff", 2*mostLog)} {
		for _, n := range []int{math.MinInt, math.MinInt + 1, -mostLog, -len(log) - 1, -len(log) - 2, -2, -1, 0} {
			checkTorn(t, log, n, "")
		}
		for _, n := range []int{len(log), len(log) + 1, len(log) + 2, 1 << 32, math.MaxInt - 1, math.MaxInt} {
			checkTorn(t, log, n, log)
		}
		if len(log) > 0 {
			checkTorn(t, log, 1, log[:1])
			checkTorn(t, log, len(log)-1, log[:len(log)-1])
		}
	}
}

func TestAnyBytesAreALog(t *testing.T) {
	r := rand.New(rand.NewSource(11))
	for range 4000 {
		log := ""
		for range r.Intn(6) {
			bytes := make([]byte, r.Intn(12))
			r.Read(bytes)
			switch r.Intn(6) {
			case 0:
				log += string(bytes)
			case 1:
				log += toldRecord(r.Intn(14), crc32.ChecksumIEEE(bytes), string(bytes))
			default:
				log += recordOf(string(bytes))
			}
		}
		checkRecords(t, log)
		checkRecords(t, impl.Torn(log, r.Intn(len(log)+1)))
		checkAppend(t, log, log)
		if len(log) > 0 {
			changed := []byte(log)
			changed[r.Intn(len(log))] = byte(r.Intn(256))
			checkRecords(t, string(changed))
		}
	}
}

func rightWant(w impl.Want) bool {
	numbers := []int{w.Kind, w.Request, w.Order, w.Class, w.Card}
	for _, x := range w.Rides {
		numbers = append(numbers, x.Train, x.Day, x.From, x.To)
	}
	wrong := slices.ContainsFunc(numbers, func(n int) bool { return !within(n, 0, mostWanted) })
	return !wrong && len(w.Rides) <= 6 && rightName(w.Name)
}

func lineOfWant(w impl.Want) string {
	line := fmt.Sprintf("%d %d %d %d %d %d", w.Kind, w.Request, w.Order, w.Class, w.Card, len(w.Rides))
	for _, x := range w.Rides {
		line += fmt.Sprintf(" %d %d %d %d", x.Train, x.Day, x.From, x.To)
	}
	return line + " " + w.Name
}

// linesByRides are the forms of the lines with 0, 1, .. rides.
var linesByRides = func() []*regexp.Regexp {
	list := []*regexp.Regexp{}
	for n := range 7 {
		number := "(0|[1-9][0-9]{0,8}) "
		list = append(list, regexp.MustCompile(`\A`+strings.Repeat(number, 5)+strconv.Itoa(n)+" "+strings.Repeat(number, 4*n)+`([ -~]{0,40})\z`))
	}
	return list
}()

func wantOfLine(s string) (impl.Want, bool) {
	for _, form := range linesByRides {
		parts := form.FindStringSubmatch(s)
		if parts == nil {
			continue
		}
		n := []int{}
		for _, part := range parts[1 : len(parts)-1] {
			x, _ := strconv.Atoi(part)
			n = append(n, x)
		}
		w := impl.Want{Kind: n[0], Request: n[1], Order: n[2], Class: n[3], Card: n[4], Name: parts[len(parts)-1]}
		for rest := n[5:]; len(rest) > 0; rest = rest[4:] {
			w.Rides = append(w.Rides, rideOn(rest[0], rest[1], rest[2], rest[3]))
		}
		return w, true
	}
	return impl.Want{}, false
}

func sameWant(a, b impl.Want) bool {
	return a.Kind == b.Kind && a.Request == b.Request && a.Order == b.Order && a.Name == b.Name && a.Class == b.Class && a.Card == b.Card && slices.Equal(a.Rides, b.Rides)
}

func checkReadWant(t *testing.T, s string) bool {
	t.Helper()
	want, will := wantOfLine(s)
	got, ok := impl.ReadWant(s)
	if ok != will || !sameWant(got, want) {
		t.Fatalf("ReadWant(%s) = %+v, %t; want %+v, %t", clip(s), got, ok, want, will)
	}
	if line, again := impl.WantLine(got); ok && (line != s || !again) {
		t.Fatalf("WantLine(%+v) = %s, %t; it was read from %s", got, clip(line), again, clip(s))
	}
	return ok
}

func checkNoWant(t *testing.T, s string) {
	t.Helper()
	if checkReadWant(t, s) {
		t.Fatalf("ReadWant(%s) is true", clip(s))
	}
}

func checkLine(t *testing.T, w impl.Want) bool {
	t.Helper()
	want, will := lineOfWant(w), rightWant(w)
	if !will {
		want = ""
	}
	line, ok := impl.WantLine(w)
	if line != want || ok != will {
		t.Fatalf("WantLine(%+v) = %s, %t; want %s, %t", w, clip(line), ok, clip(want), will)
	}
	if !ok {
		checkReadWant(t, lineOfWant(w))
		return false
	}
	if back, ok := impl.ReadWant(line); !ok || !sameWant(back, w) {
		t.Fatalf("ReadWant(%s) = %+v, %t; want %+v", clip(line), back, ok, w)
	}
	return true
}

func checkLineIs(t *testing.T, w impl.Want, want bool) {
	t.Helper()
	if checkLine(t, w) != want {
		t.Fatalf("WantLine(%+v) says %t", w, !want)
	}
}

func someRides(n int) []impl.Ride {
	list := []impl.Ride{}
	for i := range n {
		list = append(list, rideOn(10+i, 14+i, 1+i, 3+i))
	}
	return list
}

func someWant(rides int) impl.Want {
	return impl.Want{Kind: 1, Request: 23, Order: 4, Name: "B C", Class: 2, Card: 3, Rides: someRides(rides)}
}

func namedWant(rides int, name string) impl.Want {
	w := someWant(rides)
	w.Name = name
	return w
}

// digitNames could be taken for what stands ahead of them.
func digitNames() []string {
	return []string{
		"1", "5 6", "0", "00", "007", "10 14 1 3", "10 14 1 3 B", "10 14 1 3 ", "1 10 14 1 3 B C", "0 1 0 2 0 0 x", "3x", "999999999", "1000000000", " 5", "5 ", " 5 6 ",
		"1 2 3 4 5 6 7 8 9 10 11 12 13 14 15 16 1", "-1", "+1",
	}
}

func TestLinesOfWantsAreSpelt(t *testing.T) {
	for want, w := range map[string]impl.Want{
		"0 0 0 0 0 0 ":                                            {},
		"0 1 0 2 0 1 10 14 1 3 B C":                               {Request: 1, Class: 2, Name: "B C", Rides: someRides(1)},
		"3 9 17 0 0 0 5 6":                                        {Kind: 3, Request: 9, Order: 17, Name: "5 6"},
		"1 23 4 2 3 2 10 14 1 3 11 15 2 4 B C":                    someWant(2),
		"999999999 999999999 999999999 999999999 999999999 0  x ": {Kind: mostWanted, Request: mostWanted, Order: mostWanted, Class: mostWanted, Card: mostWanted, Name: " x "},
		"5 6 7 8 9 1 1 2 3 4 ":                                    {Kind: 5, Request: 6, Order: 7, Class: 8, Card: 9, Rides: []impl.Ride{rideOn(1, 2, 3, 4)}},
	} {
		if got, ok := impl.WantLine(w); got != want || !ok {
			t.Errorf("WantLine(%+v) = %q, %t; want %q", w, got, ok, want)
		}
		if got, ok := impl.ReadWant(want); !sameWant(got, w) || !ok {
			t.Errorf("ReadWant(%q) = %+v, %t; want %+v", want, got, ok, w)
		}
		checkLine(t, w)
	}
}

// places are where the numbers of a want stand.
func places(w *impl.Want) []*int {
	list := []*int{&w.Kind, &w.Request, &w.Order, &w.Class, &w.Card}
	for i := range w.Rides {
		list = append(list, &w.Rides[i].Train, &w.Rides[i].Day, &w.Rides[i].From, &w.Rides[i].To)
	}
	return list
}

func TestNumbersOfAWantAtTheirBounds(t *testing.T) {
	for rides := range 7 {
		for i := range 5 + 4*rides {
			for _, n := range append([]int{-1, 0, 9, 10, 99999999, 100000000, 999999998, 999999999, 1000000000, 1000000001, 9999999999}, edgeNumbers...) {
				w := someWant(rides)
				*places(&w)[i] = n
				checkLineIs(t, w, within(n, 0, 999999999))
			}
		}
	}
}

func TestRidesOfAWantAreCounted(t *testing.T) {
	for n := range 12 {
		for _, name := range []string{"", "B C", "7"} {
			checkLineIs(t, namedWant(n, name), n <= impl.MaxLegs)
		}
	}
	checkLineIs(t, someWant(1000), false)
}

func TestNamesOfAWant(t *testing.T) {
	for rides := range 7 {
		for _, name := range append(someNames(), digitNames()...) {
			checkLineIs(t, namedWant(rides, name), true)
		}
		for _, n := range []int{39, 40, 41, 42, 3000} {
			for _, c := range []string{" ", "x", "7", "~"} {
				checkLineIs(t, namedWant(rides, strings.Repeat(c, n)), n <= impl.MaxName)
			}
		}
		for b := range 256 {
			one := string([]byte{byte(b)})
			for _, name := range []string{one, one + "A", "A" + one, "A" + one + "B", " " + one + " ", strings.Repeat(one, 40)} {
				checkLineIs(t, namedWant(rides, name), b >= 32 && b <= 126)
			}
		}
	}
	for _, name := range []string{"Zoë", "日本", "\u00a0", "\u2028", "A\nB", "\n", "A\n", "\x00"} {
		checkLineIs(t, namedWant(1, name), false)
	}
}

func TestLinesThatAreNone(t *testing.T) {
	for _, s := range []string{
		"", " ", "  ", "\n", "x", "0", "0 ", "0 1", "0 1 0", "0 1 0 2", "0 1 0 2 0", "0 1 0 2 0 ", "0 1 0 2 0 0", "0 1 0 2 0 1", "0 1 0 2 0 1 ", "0 1 0 2 0 1 10 14 1", "0 1 0 2 0 1 10 14 1 ",
		"0 1 0 2 0 1 10 14 1 3", "0 1 0 2 0 2 10 14 1 3 B", "0 1 0 2 0 2 10 14 1 3 B C D E", "0 1 0 2 0 7 x", "0 01 0 2 0 0 x", "00 1 0 2 0 0 x", "0 1 0 2 0 00 x",
		"0 1 0 2 0 1 010 14 1 3 x", "0 1 0 2 0 1 10 14 1 03 x", "+0 1 0 2 0 0 x", "0 +1 0 2 0 0 x", "0 -1 0 2 0 0 x", "-0 1 0 2 0 0 x", "0 1 0 2 0 +0 x", "0 1 0 2 0 -0 x", "0 1 0 2 0 -1 x",
		" 0 1 0 2 0 0 x", "0  1 0 2 0 0 x", "0 1  0 2 0 0 x", "0 1 0 2 0  0 x", "0 1 0 2 0 1  10 14 1 3 x", "0 1 0 2 0 1 10 14 1  3 x", "0 1 0 2 0 1 10 14  1 3 x",
		"0 1 0 20 0x", "0 1 0 2 0 0x", "0 1 0 2 0 1 10 14 1 3x", "01 0 2 0 0 x", "0 1 0 2 x", "0 1 0 2 0 x", "0 1 0 2 0 B C", "a 1 0 2 0 0 x", "0 a 0 2 0 0 x", "0 1 0 2 0 a x", "0 1 0 2 0 1 10 a 1 3 x",
		"0 1 0 2 0 0 x\n", "\n0 1 0 2 0 0 x", "0 1 0 2 0 0 \n", "0 1 0 2 0 0 x\ny", "0 1 0 2 0 0\nx", "0\n1 0 2 0 0 x", "0 1 0 2 0 0\n", "0 1 0 2 0 1 10 14\n1 3 x", "0 1 0 2 0 0 x\r\n",
		"0\t1 0 2 0 0 x", "0 1 0 2 0 0\tx", "0 1 0 2 0 0 \tx", "0 1 0 2 0 0 x\x00", "\x000 1 0 2 0 0 x", "0 1 0 2 0 0 \x7f", "0 1 0 2 0 0 \x80", "0 1 0 2 0 0 \u00e9",
		"1000000000 1 0 2 0 0 x", "0 1000000000 0 2 0 0 x", "0 1 0 2 0 1000000000 x", "0 1 0 2 0 1 1000000000 14 1 3 x", "0 1 0 2 0 1 10 14 1 1000000000 x", "0 18446744073709551617 0 2 0 0 x",
		"0 1 0 2 0 999999999 x", "0 1 0 2 0 18446744073709551616 x", "0 1 0 2 0 4294967296 x", "0x0 1 0 2 0 0 x", "0 1_0 0 2 0 0 x", "0 1.0 0 2 0 0 x", "0 1e1 0 2 0 0 x", "0 1 0 2 0 0 " + strings.Repeat("x", 41),
		lineOfWant(someWant(7)), lineOfWant(someWant(8)), lineOfWant(namedWant(7, "")), lineOfWant(namedWant(10, "5")),
	} {
		checkNoWant(t, s)
	}
}

func TestANumberOfRidesThatIsNotHowManyThereAre(t *testing.T) {
	for rides := range 7 {
		for told := range 12 {
			words := strings.Split(lineOfWant(namedWant(rides, "B")), " ")
			words[5] = strconv.Itoa(told)
			if got := checkReadWant(t, strings.Join(words, " ")); told >= rides && got != (told == rides) {
				t.Errorf("%d rides, told as %d: %t", rides, told, got)
			}
		}
	}
}

// With fewer rides told than there are, the rest of them is the name.
func TestRidesThatAreTheName(t *testing.T) {
	w, ok := impl.ReadWant("0 1 0 2 0 1 10 14 1 3 11 15 2 4 B")
	if !ok || w.Name != "11 15 2 4 B" || !slices.Equal(w.Rides, []impl.Ride{rideOn(10, 14, 1, 3)}) {
		t.Errorf("%+v, %t", w, ok)
	}
	w, ok = impl.ReadWant("0 1 0 2 0 0 10 14 1 3 B")
	if !ok || w.Name != "10 14 1 3 B" || len(w.Rides) != 0 {
		t.Errorf("%+v, %t", w, ok)
	}
	w, ok = impl.ReadWant("0 1 0 2 0 0  ")
	if !ok || w.Name != " " {
		t.Errorf("%+v, %t", w, ok)
	}
}

func TestWordsOfALineTooFewOrTooMany(t *testing.T) {
	for rides := range 7 {
		for _, name := range []string{"", "B", "B C", "5", " "} {
			words := strings.Split(lineOfWant(namedWant(rides, name)), " ")
			for i := range words {
				checkReadWant(t, strings.Join(words[:i], " "))
				checkReadWant(t, strings.Join(words[:i], " ")+" ")
				checkReadWant(t, strings.Join(slices.Delete(slices.Clone(words), i, i+1), " "))
				for _, more := range []string{"", "0", "7", "x", "01", "-1", "+1", "1\n"} {
					checkReadWant(t, strings.Join(slices.Insert(slices.Clone(words), i, more), " "))
					changed := slices.Clone(words)
					changed[i] = more
					checkReadWant(t, strings.Join(changed, " "))
					changed[i] = more + words[i]
					checkReadWant(t, strings.Join(changed, " "))
				}
			}
		}
	}
}

func TestLinesWithAByteChanged(t *testing.T) {
	for _, w := range []impl.Want{{}, someWant(0), someWant(1), namedWant(1, ""), namedWant(2, " 7 "), namedWant(0, "10 14 1 3")} {
		checkChanged(t, checkReadWant, lineOfWant(w))
	}
}

func anyWrittenWant(r *rand.Rand) impl.Want {
	number := func() int {
		return []int{0, 1, r.Intn(10), r.Intn(100000), r.Intn(1000000000), mostWanted}[r.Intn(6)]
	}
	w := impl.Want{Kind: number(), Request: number(), Order: number(), Class: number(), Card: number()}
	for range r.Intn(8) {
		w.Rides = append(w.Rides, rideOn(number(), number(), number(), number()))
	}
	for range r.Intn(42) {
		w.Name += string([]byte{" 0123456789AZaz~"[r.Intn(16)]})
	}
	return w
}

func TestAWantComesBackFromItsLine(t *testing.T) {
	r := rand.New(rand.NewSource(12))
	both := [2]int{}
	for range 20000 {
		if checkLine(t, anyWrittenWant(r)) {
			both[1]++
		} else {
			both[0]++
		}
	}
	if both[0] < 100 || both[1] < 10000 {
		t.Errorf("none and right ones: %v", both)
	}
}

func TestTwoWantsHaveTwoLines(t *testing.T) {
	lines := map[string]impl.Want{}
	for rides := range 4 {
		for _, name := range append(someNames(), digitNames()...) {
			for i := range 5 + 4*rides {
				w := namedWant(rides, name)
				*places(&w)[i]++
				line, ok := impl.WantLine(w)
				if other, there := lines[line]; !ok || there && !sameWant(other, w) {
					t.Fatalf("%+v and %+v have the line %q, %t", other, w, line, ok)
				}
				lines[line] = w
			}
		}
	}
}

func TestAnyWordsAreALine(t *testing.T) {
	r := rand.New(rand.NewSource(13))
	words := []string{"0", "1", "2", "3", "10", "999999999", "x", "", "01", "-1", "1000000000", "B", "\n"}
	right := 0
	for range 40000 {
		line := []string{}
		for range 5 + r.Intn(12) {
			i := r.Intn(6)
			if r.Intn(12) == 0 {
				i = r.Intn(len(words))
			}
			line = append(line, words[i])
		}
		if checkReadWant(t, strings.Join(line, " ")) {
			right++
		}
	}
	if right < 1000 {
		t.Errorf("%d right ones", right)
	}
}

// What an office is wanted to do is written down and read again.
func TestASessionIsWrittenDown(t *testing.T) {
	wants := []impl.Want{sellOf(1, wholeWay(startDay), plainWay(startDay)), changeOf(2, 1, wholeWay(startDay+1)), backOf(3, 2), dayOf(4, startDay+2), sellOf(5), {Kind: 9, Request: 6}, {}}
	log := ""
	for _, w := range wants {
		line, ok := impl.WantLine(w)
		if !ok {
			t.Fatalf("WantLine(%+v) is false", w)
		}
		log, ok = impl.Append(log, line)
		if !ok {
			t.Fatalf("Append of %q is false", line)
		}
	}
	list, end := impl.Records(log)
	if len(list) != len(wants) || end != len(log) {
		t.Fatalf("%d records up to %d of %d", len(list), end, len(log))
	}
	o, read := smallOffice(t), smallOffice(t)
	for i, line := range list {
		w, ok := impl.ReadWant(line)
		if !ok || !sameWant(w, wants[i]) {
			t.Fatalf("ReadWant(%q) = %+v, %t; want %+v", line, w, ok, wants[i])
		}
		o, _ = impl.OfficeDo(o, wants[i])
		read, _ = impl.OfficeDo(read, w)
	}
	if !sameOffice(o, read) {
		t.Errorf("%+v and %+v", o, read)
	}
}

func TestLogsWriteIntoNoArgument(t *testing.T) {
	for rides := range 9 {
		for _, name := range []string{"", "B C", "\n"} {
			for _, request := range []int{-1, 7} {
				w := namedWant(rides, name)
				w.Request = request
				w.Rides = withRoom(w.Rides, rideOn(7, 7, 7, 7))
				kept := slices.Clone(w.Rides[:cap(w.Rides)])
				impl.WantLine(w)
				if !slices.Equal(kept, w.Rides[:cap(w.Rides)]) {
					t.Fatalf("%d rides: %+v became %+v", rides, kept, w.Rides[:cap(w.Rides)])
				}
			}
		}
	}
}

func shareBytes(a, b string) bool {
	if len(a) == 0 || len(b) == 0 {
		return false
	}
	at, to := uintptr(unsafe.Pointer(unsafe.StringData(a))), uintptr(unsafe.Pointer(unsafe.StringData(b)))
	return at < to+uintptr(len(b)) && to < at+uintptr(len(a))
}

func TestLogsAnswerNewMemory(t *testing.T) {
	log, text := logOf("ab", "cde", strings.Repeat("x", 100)), strings.Repeat("y", 50)
	answers := []string{}
	record, _ := impl.Record(text)
	grown, _ := impl.Append(log, text)
	refused, _ := impl.Append(log, strings.Repeat("y", 3001))
	list, _ := impl.Records(log)
	answers = append(append(answers, record, grown, refused, impl.Torn(log, 5), impl.Torn(log, len(log)), impl.Torn(log, len(log)+1)), list...)
	for i, a := range answers {
		if shareBytes(a, log) || shareBytes(a, text) {
			t.Errorf("answer %d shares what was handed in", i)
		}
	}
	clear(list)
	checkTexts(t, log, len(log), "ab", "cde", strings.Repeat("x", 100))
	w := someWant(3)
	line, _ := impl.WantLine(w)
	if shareBytes(line, w.Name) {
		t.Error("a line shares the name that was handed in")
	}
	clear(w.Rides)
	first, _ := impl.ReadWant(line)
	if shareBytes(first.Name, line) {
		t.Error("a name shares the line that was handed in")
	}
	clear(first.Rides)
	if second, ok := impl.ReadWant(line); !ok || !sameWant(second, someWant(3)) {
		t.Errorf("ReadWant = %+v after an earlier answer was changed", second)
	}
}

func TestLogsAnswerAtAnyArguments(t *testing.T) {
	texts := append(someTexts(), strings.Repeat("\x00", mostLog+1), strings.Repeat("0 ", 2000000), strings.Repeat("1 ", 50), strings.Repeat("9", 4000000), strings.Repeat(" ", 4000000), "0 1 0 2 0 6"+strings.Repeat(" 1", 1000000), "\xff\xfe", "\xff\xff\xff\xff\xff\xff\xff\xff")
	for _, s := range texts {
		checkRecord(t, s)
		checkRecords(t, s)
		checkReadWant(t, s)
		checkAppend(t, s, "ab")
		checkAppend(t, logOf("ab"), s)
		for _, n := range edgeNumbers {
			if got := impl.Torn(s, n); got != s[:min(max(n, 0), len(s))] {
				t.Errorf("Torn(%s, %d) = %s", clip(s), n, clip(got))
			}
		}
	}
	for _, a := range edgeNumbers {
		for _, b := range edgeNumbers {
			checkLine(t, impl.Want{Kind: a, Request: b, Order: a, Class: b, Card: a, Name: "A"})
			checkLine(t, impl.Want{Kind: 1, Rides: []impl.Ride{rideOn(a, b, a, b), rideOn(b, a, b, a)}})
		}
	}
}
