package tests

import (
	"fmt"
	"math"
	"math/rand"
	"slices"
	"strings"
	"sync"
	"testing"
	"unsafe"

	"loop.example/g00211/impl"
)

const mostOps = 300

func wantOpOf(w impl.Want) impl.Op {
	return impl.Op{Kind: impl.OpWant, Want: w}
}

func syncOp() impl.Op {
	return impl.Op{Kind: impl.OpSync}
}

func crashOp(keep int) impl.Op {
	return impl.Op{Kind: impl.OpCrash, Keep: keep}
}

func copiedPlatform(p impl.Platform) impl.Platform {
	p.Start, p.Office = copiedOffice(p.Start), copiedOffice(p.Office)
	return p
}

func roomyPlatform(p impl.Platform) impl.Platform {
	p.Start, p.Office = roomyOffice(p.Start), roomyOffice(p.Office)
	return p
}

func wholePlatform(p impl.Platform) impl.Platform {
	p.Start, p.Office = wholeOffice(p.Start), wholeOffice(p.Office)
	return p
}

func samePlatform(a, b impl.Platform) bool {
	return sameOffice(a.Start, b.Start) && sameOffice(a.Office, b.Office) && a.Log == b.Log && a.Synced == b.Synced
}

// tell keeps what is said of a platform with a great log short.
func tell(p impl.Platform) string {
	return fmt.Sprintf("{start %+v, office %+v, log %s, synced %d}", p.Start, p.Office, clip(p.Log), p.Synced)
}

func wantRebuild(start impl.Office, log string) (impl.Office, int) {
	o, done := copiedOffice(start), 0
	texts, _ := wantRecords(log)
	for _, s := range texts {
		w, ok := wantOfLine(s)
		if !ok {
			break
		}
		o, _ = wantDo(o, w)
		done++
	}
	return o, done
}

func rightPlatform(p impl.Platform) bool {
	o, _ := wantRebuild(p.Start, p.Log)
	return rightOffice(p.Start) && within(p.Synced, 0, len(p.Log)) && sameOffice(p.Office, o)
}

func wantWanted(p impl.Platform, w impl.Want) (impl.Platform, impl.Reply) {
	if !rightWant(w) {
		return p, impl.Reply{Request: w.Request, Said: 1}
	}
	log := p.Log + recordOf(lineOfWant(w))
	if len(log) > mostLog {
		return p, impl.Reply{Request: w.Request, Said: 5}
	}
	for _, r := range p.Office.Told {
		if r.Request == w.Request {
			return p, r
		}
	}
	var r impl.Reply
	p.Office, r = wantDo(p.Office, w)
	p.Log = log
	return p, r
}

func wantOp(p impl.Platform, op impl.Op) (impl.Platform, impl.Reply) {
	p = copiedPlatform(p)
	switch op.Kind {
	case 0:
		return wantWanted(p, op.Want)
	case 1:
		p.Synced = len(p.Log)
		return p, impl.Reply{}
	case 2:
		safe := min(max(p.Synced, 0), len(p.Log))
		more := len(p.Log) - safe
		if op.Keep < more {
			more = max(op.Keep, 0)
		}
		_, end := wantRecords(p.Log[:safe+more])
		p.Log, p.Synced = p.Log[:end], end
		p.Office, _ = wantRebuild(p.Start, p.Log)
		return p, impl.Reply{}
	}
	return p, impl.Reply{Said: 1}
}

// span is where something stands in memory.
type span struct{ from, to uintptr }

func listSpan[T any](list []T) span {
	var one T
	from := uintptr(unsafe.Pointer(unsafe.SliceData(list)))
	return span{from, from + uintptr(cap(list))*unsafe.Sizeof(one)}
}

func textSpan(s string) span {
	from := uintptr(unsafe.Pointer(unsafe.StringData(s)))
	return span{from, from + uintptr(len(s))}
}

func meet(a, b span) bool {
	return a.from < b.to && b.from < a.to
}

func listSpans(o impl.Office) []span {
	list := []span{listSpan(o.Lines), listSpan(o.Tariff), listSpan(o.Holds), listSpan(o.Orders), listSpan(o.Told)}
	for _, x := range o.Lines {
		list = append(list, listSpan(x.Stops))
	}
	for _, x := range o.Orders {
		list = append(list, listSpan(x.Rides))
	}
	return list
}

func textSpans(o impl.Office) []span {
	list := []span{}
	for _, x := range o.Orders {
		list = append(list, textSpan(x.Name))
	}
	return list
}

func platformSpans(p impl.Platform) []span {
	return slices.Concat(listSpans(p.Start), listSpans(p.Office), textSpans(p.Start), textSpans(p.Office), []span{textSpan(p.Log)})
}

func wantSpans(w impl.Want) []span {
	return []span{listSpan(w.Rides), textSpan(w.Name)}
}

// checkNew asks that an answer has no memory of what was handed in.
func checkNew(t *testing.T, answer, asked []span) {
	t.Helper()
	for i, a := range answer {
		for j, b := range asked {
			if meet(a, b) {
				t.Fatalf("part %d of the answer shares memory with part %d of what was handed in", i, j)
			}
		}
	}
}

// checkApart asks that no two lists of an answer share memory.
func checkApart(t *testing.T, lists []span) {
	t.Helper()
	for i, a := range lists {
		for j, b := range lists[:i] {
			if meet(a, b) {
				t.Fatalf("lists %d and %d of the answer share memory", j, i)
			}
		}
	}
}

func checkPlatform(t *testing.T, p impl.Platform, want bool) {
	t.Helper()
	if right := rightPlatform(p); right != want {
		t.Fatalf("the test itself takes %s for right: %t", tell(p), right)
	}
	asked := roomyPlatform(p)
	kept := wholePlatform(asked)
	if got := impl.PlatformOk(asked); got != want {
		t.Fatalf("PlatformOk(%s) = %t", tell(p), got)
	}
	if !samePlatform(wholePlatform(asked), kept) {
		t.Fatalf("PlatformOk wrote into %s", tell(p))
	}
}

func checkStart(t *testing.T, o impl.Office) impl.Platform {
	t.Helper()
	asked := roomyOffice(o)
	kept := wholeOffice(asked)
	p, ok := impl.PlatformStart(asked)
	want, will := impl.Platform{Start: o, Office: o}, rightOffice(o)
	if !will {
		want = impl.Platform{}
	}
	if ok != will || !samePlatform(p, want) {
		t.Fatalf("PlatformStart(%+v) = %s, %t, want %t", o, tell(p), ok, will)
	}
	if !sameOffice(wholeOffice(asked), kept) {
		t.Fatalf("PlatformStart wrote into %+v", asked)
	}
	checkNew(t, platformSpans(p), slices.Concat(listSpans(asked), textSpans(asked)))
	checkApart(t, slices.Concat(listSpans(p.Start), listSpans(p.Office)))
	return p
}

func checkStarted(t *testing.T, o impl.Office) impl.Platform {
	t.Helper()
	p := checkStart(t, o)
	if p.Log != "" || p.Synced != 0 || !sameOffice(p.Start, o) || !sameOffice(p.Office, o) {
		t.Fatalf("PlatformStart(%+v) = %s", o, tell(p))
	}
	checkPlatform(t, p, true)
	return p
}

func checkRebuild(t *testing.T, start impl.Office, log string) (impl.Office, int) {
	t.Helper()
	asked := roomyOffice(start)
	kept := wholeOffice(asked)
	want, will := wantRebuild(start, log)
	o, done := impl.Rebuild(asked, log)
	if done != will || !sameOffice(o, want) {
		t.Fatalf("Rebuild(%+v, %s) = %+v, %d, want %+v, %d", start, clip(log), o, done, want, will)
	}
	if !sameOffice(wholeOffice(asked), kept) {
		t.Fatalf("Rebuild wrote into %+v", asked)
	}
	checkNew(t, slices.Concat(listSpans(o), textSpans(o)), slices.Concat(listSpans(asked), textSpans(asked), []span{textSpan(log)}))
	checkApart(t, listSpans(o))
	return o, done
}

func checkRebuilt(t *testing.T, start impl.Office, log string, want impl.Office, will int) {
	t.Helper()
	if o, done := checkRebuild(t, start, log); done != will || !sameOffice(o, want) {
		t.Fatalf("Rebuild(%+v, %s) = %+v, %d, want %+v, %d", start, clip(log), o, done, want, will)
	}
}

// checkOp also sees that nothing was written into what was handed in, and
// that the answer is new memory.
func checkOp(t *testing.T, p impl.Platform, op impl.Op) (impl.Platform, impl.Reply) {
	t.Helper()
	want, said := wantOp(p, op)
	asked := roomyPlatform(p)
	op.Want.Rides = withRoom(op.Want.Rides, impl.Ride{Day: 7})
	kept, rides := wholePlatform(asked), slices.Clone(op.Want.Rides[:cap(op.Want.Rides)])
	next, r := impl.PlatformDo(asked, op)
	if r != said || !samePlatform(next, want) {
		t.Fatalf("PlatformDo(%s, %+v) = %s, %+v, want %s, %+v", tell(p), op, tell(next), r, tell(want), said)
	}
	if !samePlatform(wholePlatform(asked), kept) || !slices.Equal(op.Want.Rides[:cap(op.Want.Rides)], rides) {
		t.Fatalf("PlatformDo wrote into %s or %+v", tell(asked), op)
	}
	checkNew(t, platformSpans(next), slices.Concat(platformSpans(asked), wantSpans(op.Want)))
	checkApart(t, slices.Concat(listSpans(next.Start), listSpans(next.Office)))
	return next, r
}

// checkOps asks for a platform that is PlatformOk behind each op.
func checkOps(t *testing.T, p impl.Platform, ops ...impl.Op) impl.Platform {
	t.Helper()
	for _, op := range ops {
		p, _ = checkOp(t, p, op)
		checkPlatform(t, p, true)
	}
	return p
}

func checkWanted(t *testing.T, p impl.Platform, list ...impl.Want) impl.Platform {
	t.Helper()
	for _, w := range list {
		p = checkOps(t, p, wantOpOf(w))
	}
	return p
}

// checkAsItWas asks for a Reply and for nothing else.
func checkAsItWas(t *testing.T, p impl.Platform, op impl.Op, want impl.Reply) {
	t.Helper()
	if next, r := checkOp(t, p, op); r != want || !samePlatform(next, p) {
		t.Fatalf("PlatformDo(%s, %+v) = %s, %+v, want %+v and nothing new", tell(p), op, tell(next), r, want)
	}
}

// checkLeft asks for a crash that leaves the log of just these wants.
func checkLeft(t *testing.T, p impl.Platform, keep int, list []impl.Want) impl.Platform {
	t.Helper()
	next, r := checkOp(t, p, crashOp(keep))
	o := p.Start
	for _, w := range list {
		o, _ = wantDo(o, w)
	}
	log := logOfWants(list)
	if r != (impl.Reply{}) || next.Log != log || next.Synced != len(log) || !sameOffice(next.Office, o) || !sameOffice(next.Start, p.Start) {
		t.Fatalf("of %s a crash that keeps %d leaves %s, %+v, want %d wants", tell(p), keep, tell(next), r, len(list))
	}
	checkPlatform(t, next, true)
	return next
}

func logOfWants(list []impl.Want) string {
	log := ""
	for _, w := range list {
		log += recordOf(lineOfWant(w))
	}
	return log
}

func smallPlatform(t *testing.T) impl.Platform {
	t.Helper()
	return checkStarted(t, smallOffice(t))
}

// someSession has wants that are done and such that are refused, all of
// them told.
func someSession() []impl.Want {
	return []impl.Want{
		sellOf(1, wholeWay(14), plainWay(14)), sellOf(2, rideOn(10, 14, 1, 2)), sellOf(3), changeOf(4, 2, rideOn(10, 15, 2, 3)),
		backOf(5, 9), sellOf(6, wholeWay(14)), sellOf(7, wholeWay(14)), backOf(8, 1), dayOf(9, 5), dayOf(10, 9), sellOf(11, wholeWay(8)), sellOf(12, plainWay(9)),
	}
}

// untold is written down, but no office remembers it.
func untold(name string) impl.Want {
	return impl.Want{Kind: 9, Name: name}
}

// padded has a log of just n bytes, by wants that change nothing; there is to
// be room for one of them at least.
func padded(log string, n int) string {
	const least, most = 20, 60
	var text strings.Builder
	text.WriteString(log)
	for n-text.Len() > 0 {
		size := n - text.Len()
		if size > 2*most {
			size = most
		} else if size > most {
			size /= 2
		}
		text.WriteString(recordOf(lineOfWant(untold(strings.Repeat("x", size-least)))))
	}
	return text.String()
}

// filled has order 1 sold as request 1, request 2 refused, and a log of just
// n bytes.
func filled(t *testing.T, n int) impl.Platform {
	t.Helper()
	p := checkWanted(t, smallPlatform(t), sellOf(1, wholeWay(14)), sellOf(2))
	p.Log = padded(p.Log, n)
	if len(p.Log) != n {
		t.Fatalf("a log of %d bytes has %d", n, len(p.Log))
	}
	checkPlatform(t, p, true)
	return p
}

func TestPlatformConstants(t *testing.T) {
	if impl.OpWant != 0 || impl.OpSync != 1 || impl.OpCrash != 2 {
		t.Errorf("%d %d %d", impl.OpWant, impl.OpSync, impl.OpCrash)
	}
}

func TestPlatformsBegin(t *testing.T) {
	checkStarted(t, impl.Office{})
	checkStarted(t, smallOffice(t))
	checkStarted(t, busyOffice(t))
	checkStarted(t, crowdedOffice(t, 100))
	for _, today := range edgeNumbers {
		o := busyOffice(t)
		o.Today = today
		checkStarted(t, o)
	}
	checkStarted(t, sharingOffice())
}

func TestPlatformsThatDoNotBegin(t *testing.T) {
	for name, put := range wrongs() {
		t.Run(name, func(t *testing.T) {
			o := busyOffice(t)
			put(&o)
			p, ok := impl.PlatformStart(o)
			if ok || !samePlatform(p, impl.Platform{}) {
				t.Errorf("PlatformStart(%+v) = %s, %t", o, tell(p), ok)
			}
			checkStart(t, o)
			checkPlatform(t, impl.Platform{Start: o, Office: o}, false)
		})
	}
}

func TestPlatformsBeginAtTheBoundsOfAnOffice(t *testing.T) {
	for _, n := range []int{299, 300, 301} {
		o := smallOffice(t)
		for i := range n {
			o.Told = append(o.Told, impl.Reply{Request: i + 1})
		}
		if checkStart(t, o); n <= mostTold {
			checkStarted(t, o)
		}
	}
	for _, n := range []int{99, 100, 101} {
		o := smallOffice(t)
		for i := range n {
			o.Orders = append(o.Orders, impl.Order{Id: i + 1, Name: "A", Rides: []impl.Ride{wholeWay(i)}})
		}
		if checkStart(t, o); n <= impl.MaxOrders {
			checkStarted(t, o)
		}
	}
}

func TestRebuildOfALogOfNoBytes(t *testing.T) {
	for _, o := range []impl.Office{{}, smallOffice(t), busyOffice(t), sharingOffice()} {
		checkRebuilt(t, o, "", o, 0)
	}
}

func TestRebuildOfASession(t *testing.T) {
	start := smallOffice(t)
	o, wants := start, someSession()
	for i, w := range wants {
		checkRebuilt(t, start, logOfWants(wants[:i]), o, i)
		o, _ = wantDo(o, w)
	}
	checkRebuilt(t, start, logOfWants(wants), o, len(wants))
	if len(o.Orders) != 5 || len(o.Told) != len(wants) || o.Today != 9 {
		t.Errorf("the session makes %+v", o)
	}
}

// Wants count, be they refused, told before or not told at all.
func TestRebuildCountsWants(t *testing.T) {
	start := smallOffice(t)
	once, _ := wantDo(start, sellOf(1, wholeWay(14)))
	again := sellOf(1, wholeWay(15))
	checkRebuilt(t, start, logOfWants([]impl.Want{sellOf(1, wholeWay(14)), sellOf(1, wholeWay(14))}), once, 2)
	checkRebuilt(t, start, logOfWants([]impl.Want{sellOf(1, wholeWay(14)), again, again, backOf(1, 1)}), once, 4)
	checkRebuilt(t, start, logOfWants([]impl.Want{untold(""), {}, sellOf(1, wholeWay(14)), untold("x"), sellOf(0, wholeWay(14))}), once, 5)
	checkRebuilt(t, once, logOfWants([]impl.Want{again, again}), once, 2)
	log := logOfWants(slices.Repeat([]impl.Want{{Kind: 9}}, 10000))
	if len(log) != mostLog {
		t.Fatalf("the log has %d bytes", len(log))
	}
	checkRebuilt(t, start, log, start, 10000)
}

func TestRebuildOfALogThatIsNotWhole(t *testing.T) {
	start, wants := smallOffice(t), someSession()[:4]
	log := logOfWants(wants)
	whole := 0
	for n := range len(log) + 1 {
		if whole < len(wants) && n >= len(logOfWants(wants[:whole+1])) {
			whole++
		}
		if _, done := checkRebuild(t, start, log[:n]); done != whole {
			t.Fatalf("of %d bytes %d wants are done, not %d", n, done, whole)
		}
	}
	for i := range len(log) {
		changed := []byte(log)
		changed[i] ^= 1
		checkRebuild(t, start, string(changed))
	}
	for _, behind := range []string{"x", "\x00", strings.Repeat("\x00", 7), "\x00\x00\x00\x05", strings.Repeat("\xff", 100)} {
		_, done := checkRebuild(t, start, log+behind)
		_, less := checkRebuild(t, start, behind+log)
		if done != 4 || less != 0 {
			t.Fatalf("with %q behind and ahead %d and %d are done", behind, done, less)
		}
	}
}

func noWants() []string {
	return []string{
		"", " ", "x", "0 1 0 2 0 1", "0 01 0 2 0 0 x", "0 1 0 2 0 0 x\n", "0 -1 0 2 0 0 x", "0 1000000000 0 2 0 0 x", "0 1 0 2 0 0 " + strings.Repeat("x", 41),
		lineOfWant(namedWant(7, "A")), strings.Repeat("y", 3000),
	}
}

func TestRebuildEndsAtARecordThatIsNoWant(t *testing.T) {
	start, wants := smallOffice(t), someSession()
	for _, s := range noWants() {
		for i := range 4 {
			o := start
			for _, w := range wants[:i] {
				o, _ = wantDo(o, w)
			}
			log := logOfWants(wants[:i]) + recordOf(s)
			checkRebuilt(t, start, log, o, i)
			checkRebuilt(t, start, log+logOfWants(wants[i:]), o, i)
		}
	}
}

func TestRebuildAtTheBoundOfALog(t *testing.T) {
	start := smallOffice(t)
	sold, _ := wantDo(start, sellOf(1, wholeWay(14)))
	last := recordOf(lineOfWant(sellOf(1, wholeWay(14))))
	log := padded("", mostLog-len(last)) + last
	_, done := checkRebuild(t, start, log)
	checkRebuilt(t, start, log, sold, done)
	if done < 3000 {
		t.Errorf("%d wants are done", done)
	}
	checkRebuilt(t, start, log+"\x00", start, 0)
	checkRebuilt(t, start, last+strings.Repeat("\x00", mostLog-len(last)), sold, 1)
	checkRebuilt(t, start, last+strings.Repeat("\x00", mostLog-len(last)+1), start, 0)
}

func TestRebuildOfAnOfficeThatIsNotRight(t *testing.T) {
	log := logOfWants([]impl.Want{sellOf(61, wholeWay(14), plainWay(14)), changeOf(62, 1, wholeWay(15)), backOf(63, 4), dayOf(64, 10), sellOf(1, wholeWay(14))})
	for _, put := range wrongs() {
		o := busyOffice(t)
		put(&o)
		if _, done := checkRebuild(t, o, log); done != 5 {
			t.Errorf("%d of 5 are done", done)
		}
	}
}

func TestSafeBytesOfAPlatform(t *testing.T) {
	p := checkWanted(t, smallPlatform(t), someSession()...)
	for _, n := range append([]int{-1, 0, 1, len(p.Log) - 1, len(p.Log), len(p.Log) + 1}, edgeNumbers...) {
		p.Synced = n
		checkPlatform(t, p, n >= 0 && n <= len(p.Log))
	}
	empty := smallPlatform(t)
	for _, n := range append([]int{-1, 0, 1}, edgeNumbers...) {
		empty.Synced = n
		checkPlatform(t, empty, n == 0)
	}
}

// numberPlaces are where the numbers of an office stand.
func numberPlaces(o *impl.Office) []*int {
	list := []*int{&o.Today}
	for i := range o.Lines {
		x := &o.Lines[i]
		list = append(list, &x.Id, &x.Days, &x.Coaches, &x.Seats)
		for j := range x.Stops {
			list = append(list, &x.Stops[j].Station, &x.Stops[j].Arr, &x.Stops[j].Dep)
		}
	}
	for i := range o.Tariff {
		list = append(list, &o.Tariff[i].A, &o.Tariff[i].B, &o.Tariff[i].Cost)
	}
	for i := range o.Holds {
		h := &o.Holds[i]
		list = append(list, &h.Train, &h.Day, &h.Coach, &h.Seat, &h.A, &h.B, &h.Order)
	}
	for i := range o.Orders {
		x := &o.Orders[i]
		list = append(list, &x.Id, &x.State, &x.Class, &x.Card, &x.Price, &x.Paid, &x.First)
		for j := range x.Rides {
			list = append(list, &x.Rides[j].Train, &x.Rides[j].Day, &x.Rides[j].From, &x.Rides[j].To)
		}
	}
	for i := range o.Told {
		r := &o.Told[i]
		list = append(list, &r.Request, &r.Said, &r.Order, &r.Amount)
	}
	return list
}

func busyPlatform(t *testing.T) impl.Platform {
	t.Helper()
	p := checkWanted(t, checkStarted(t, busyOffice(t)), sellOf(11, rideOn(10, 16, 1, 2)), changeOf(12, 1, wholeWay(15), plainWay(16)), dayOf(13, 7))
	if len(p.Office.Orders) != 6 || len(p.Office.Holds) != 3 {
		t.Fatalf("the busy platform is %s", tell(p))
	}
	return p
}

func TestAnOfficeThatIsNotWhatTheLogMakes(t *testing.T) {
	p := busyPlatform(t)
	count := len(numberPlaces(&p.Office))
	for i := range count {
		for _, more := range []int{-1, 1, math.MinInt} {
			other := copiedPlatform(p)
			*numberPlaces(&other.Office)[i] += more
			checkPlatform(t, other, false)
		}
	}
	for i := range p.Office.Orders {
		for _, name := range []string{"", "A", "A B ", "a B", "A C", "A B C"} {
			other := copiedPlatform(p)
			other.Office.Orders[i].Name = name
			checkPlatform(t, other, name == p.Office.Orders[i].Name)
		}
	}
	if count < 100 {
		t.Errorf("%d numbers", count)
	}
}

func TestListsOfAnOfficeThatIsNotWhatTheLogMakes(t *testing.T) {
	p := busyPlatform(t)
	for name, put := range map[string]func(o *impl.Office){
		"no lines":          func(o *impl.Office) { o.Lines = nil },
		"a train less":      func(o *impl.Office) { o.Lines = o.Lines[:1] },
		"a train more":      func(o *impl.Office) { o.Lines = append(o.Lines, impl.Train{}) },
		"trains turned":     func(o *impl.Office) { o.Lines = backwards(o.Lines) },
		"a stop less":       func(o *impl.Office) { o.Lines[0].Stops = o.Lines[0].Stops[:2] },
		"a stop more":       func(o *impl.Office) { o.Lines[1].Stops = append(o.Lines[1].Stops, impl.Stop{}) },
		"no stops":          func(o *impl.Office) { o.Lines[0].Stops = nil },
		"no tariff":         func(o *impl.Office) { o.Tariff = nil },
		"an edge less":      func(o *impl.Office) { o.Tariff = o.Tariff[:3] },
		"an edge more":      func(o *impl.Office) { o.Tariff = append(o.Tariff, impl.Edge{}) },
		"edges turned":      func(o *impl.Office) { o.Tariff = backwards(o.Tariff) },
		"no holds":          func(o *impl.Office) { o.Holds = nil },
		"a hold less":       func(o *impl.Office) { o.Holds = o.Holds[1:] },
		"a hold more":       func(o *impl.Office) { o.Holds = append(o.Holds, impl.Hold{}) },
		"holds turned":      func(o *impl.Office) { o.Holds = backwards(o.Holds) },
		"no orders":         func(o *impl.Office) { o.Orders = nil },
		"an order less":     func(o *impl.Office) { o.Orders = o.Orders[:5] },
		"an order more":     func(o *impl.Office) { o.Orders = append(o.Orders, impl.Order{}) },
		"orders turned":     func(o *impl.Office) { o.Orders = backwards(o.Orders) },
		"a ride less":       func(o *impl.Office) { o.Orders[0].Rides = o.Orders[0].Rides[:1] },
		"a ride more":       func(o *impl.Office) { o.Orders[5].Rides = append(o.Orders[5].Rides, impl.Ride{}) },
		"no rides":          func(o *impl.Office) { o.Orders[2].Rides = nil },
		"none told":         func(o *impl.Office) { o.Told = nil },
		"a reply less":      func(o *impl.Office) { o.Told = o.Told[:len(o.Told)-1] },
		"a reply more":      func(o *impl.Office) { o.Told = append(o.Told, impl.Reply{}) },
		"replies turned":    func(o *impl.Office) { o.Told = backwards(o.Told) },
		"as it began":       func(o *impl.Office) { *o = busyOffice(t) },
		"the zero value":    func(o *impl.Office) { *o = impl.Office{} },
		"one want too many": func(o *impl.Office) { *o, _ = wantDo(*o, dayOf(14, 8)) },
	} {
		t.Run(name, func(t *testing.T) {
			other := copiedPlatform(p)
			put(&other.Office)
			checkPlatform(t, other, false)
		})
	}
}

// An empty list and nil are the same value.
func TestEmptyListsOfAPlatform(t *testing.T) {
	full := impl.Office{Lines: []impl.Train{}, Tariff: []impl.Edge{}, Holds: []impl.Hold{}, Orders: []impl.Order{}, Told: []impl.Reply{}}
	for _, p := range []impl.Platform{{}, {Start: full}, {Office: full}, {Start: full, Office: full}} {
		if !impl.PlatformOk(p) {
			t.Errorf("PlatformOk(%s) is false", tell(p))
		}
	}
	p := busyPlatform(t)
	p.Start.Orders[1].Rides, p.Office.Orders[1].Rides = nil, []impl.Ride{}
	if !impl.PlatformOk(p) {
		t.Errorf("PlatformOk(%s) is false", tell(p))
	}
}

// A log need not be whole: the office is what Rebuild makes of it.
func TestLogsOfAPlatform(t *testing.T) {
	start, wants := smallOffice(t), someSession()
	other, _ := wantDo(start, wants[0])
	for _, behind := range append([]string{"x", strings.Repeat("\x00", 7), "\x00\x00\x00\x09\x00", strings.Repeat("z", mostLog)}, noWants()...) {
		for _, log := range []string{behind, recordOf(behind), recordOf(behind) + logOfWants(wants), logOfWants(wants[:1]) + behind, logOfWants(wants[:1]) + recordOf(behind) + logOfWants(wants[1:])} {
			o, _ := wantRebuild(start, log)
			for _, synced := range []int{0, 1, len(log) / 2, len(log), len(log) + 1} {
				checkPlatform(t, impl.Platform{Start: start, Office: o, Log: log, Synced: synced}, synced <= len(log))
			}
			if sameOffice(o, start) {
				o = other
			} else {
				o = start
			}
			checkPlatform(t, impl.Platform{Start: start, Office: o, Log: log}, false)
		}
	}
	all, _ := wantRebuild(start, logOfWants(wants))
	checkPlatform(t, impl.Platform{Start: start, Office: all, Log: logOfWants(wants)}, true)
	checkPlatform(t, impl.Platform{Start: start, Office: all, Log: logOfWants(wants[1:])}, false)
	checkPlatform(t, impl.Platform{Start: other, Office: all, Log: logOfWants(wants[1:])}, true)
}

func TestAPlatformAtWork(t *testing.T) {
	p := smallPlatform(t)
	p, r := checkOp(t, p, wantOpOf(sellOf(1, wholeWay(14))))
	first := recordOf("0 1 0 2 0 1 10 14 1 3 A B")
	if r != (impl.Reply{Request: 1, Order: 1, Amount: 1100}) || p.Log != first || p.Synced != 0 || len(p.Office.Orders) != 1 || len(p.Start.Orders) != 0 {
		t.Fatalf("a sale: %s, %+v", tell(p), r)
	}
	p, r = checkOp(t, p, syncOp())
	if r != (impl.Reply{}) || p.Log != first || p.Synced != len(first) || len(p.Office.Orders) != 1 {
		t.Fatalf("made safe: %s, %+v", tell(p), r)
	}
	p, r = checkOp(t, p, wantOpOf(backOf(2, 1)))
	both := first + recordOf("2 2 1 0 0 0 ")
	if r != (impl.Reply{Request: 2, Order: 1, Amount: -1100}) || p.Log != both || p.Synced != len(first) || impl.Income(p.Office) != 0 {
		t.Fatalf("given back: %s, %+v", tell(p), r)
	}
	lost, r := checkOp(t, p, crashOp(len(both)-len(first)-1))
	if r != (impl.Reply{}) || lost.Log != first || lost.Synced != len(first) || impl.Income(lost.Office) != 1100 {
		t.Fatalf("lost: %s, %+v", tell(lost), r)
	}
	kept, r := checkOp(t, p, crashOp(len(both)-len(first)))
	if r != (impl.Reply{}) || kept.Log != both || kept.Synced != len(both) || impl.Income(kept.Office) != 0 {
		t.Fatalf("kept: %s, %+v", tell(kept), r)
	}
}

func TestKindsOfOps(t *testing.T) {
	p := checkOps(t, smallPlatform(t), wantOpOf(sellOf(1, wholeWay(14))), syncOp(), wantOpOf(sellOf(2, wholeWay(14))))
	for _, kind := range append([]int{-1, 3, 4, 255, 256, 257, 258}, edgeNumbers...) {
		if within(kind, 0, 2) {
			continue
		}
		for _, w := range []impl.Want{{}, sellOf(1, wholeWay(14)), sellOf(3, wholeWay(15)), {Kind: -1, Request: 8}} {
			checkAsItWas(t, p, impl.Op{Kind: kind, Want: w, Keep: 3}, impl.Reply{Said: impl.SaidBad})
		}
	}
	for kind := range 3 {
		next, _ := checkOp(t, p, impl.Op{Kind: kind, Want: sellOf(3, wholeWay(15)), Keep: 3})
		if samePlatform(next, p) {
			t.Errorf("kind %d does nothing", kind)
		}
	}
}

func TestWantsThatCannotBeWrittenDown(t *testing.T) {
	p := checkOps(t, smallPlatform(t), wantOpOf(sellOf(1, wholeWay(14))), syncOp(), wantOpOf(sellOf(2)))
	for _, request := range []int{1, 2, 3, 0, -1, math.MinInt, mostWanted, mostWanted + 1, math.MaxInt} {
		for i := range 9 {
			for _, n := range []int{-1, 1000000000, math.MinInt, math.MaxInt} {
				w := sellOf(request, wholeWay(14))
				*places(&w)[i] = n
				checkAsItWas(t, p, wantOpOf(w), impl.Reply{Request: w.Request, Said: impl.SaidBad})
			}
		}
		for _, name := range []string{"\n", "A\x7f", "\xff", strings.Repeat("x", 41)} {
			w := sellOf(request, wholeWay(14))
			w.Name = name
			checkAsItWas(t, p, wantOpOf(w), impl.Reply{Request: request, Said: impl.SaidBad})
		}
		checkAsItWas(t, p, wantOpOf(sellOf(request, someRides(7)...)), impl.Reply{Request: request, Said: impl.SaidBad})
	}
	checkAsItWas(t, p, wantOpOf(sellOf(mostWanted+1, wholeWay(14))), impl.Reply{Request: mostWanted + 1, Said: impl.SaidBad})
}

// With no line there is nothing that a full log could refuse.
func TestWantsThatCannotBeWrittenDownAtAFullLog(t *testing.T) {
	p := filled(t, mostLog)
	for _, request := range []int{1, 2, 3} {
		checkAsItWas(t, p, wantOpOf(impl.Want{Request: request, Order: -1}), impl.Reply{Request: request, Said: impl.SaidBad})
		checkAsItWas(t, p, wantOpOf(impl.Want{Request: request}), impl.Reply{Request: request, Said: impl.SaidFull})
	}
}

func TestALogThatIsFull(t *testing.T) {
	for _, w := range []impl.Want{sellOf(3, wholeWay(14)), sellOf(3), backOf(3, 1), dayOf(3, 6), untold(""), {}, sellOf(1, wholeWay(14)), sellOf(2), backOf(1, 1)} {
		size := len(recordOf(lineOfWant(w)))
		for _, room := range []int{0, 1, size - 1, size, size + 1, size + 30} {
			p := filled(t, mostLog-room)
			if room < size {
				checkAsItWas(t, p, wantOpOf(w), impl.Reply{Request: w.Request, Said: impl.SaidFull})
				continue
			}
			next, r := checkOp(t, p, wantOpOf(w))
			checkPlatform(t, next, true)
			if r.Said == impl.SaidFull || w.Request != 1 && w.Request != 2 && len(next.Log) != len(p.Log)+size {
				t.Fatalf("with room for %d, %+v of %d bytes was said %+v", room, w, size, r)
			}
		}
	}
}

func TestALogThatIsTooLong(t *testing.T) {
	p := smallPlatform(t)
	p.Log = strings.Repeat("\x00", mostLog+1)
	checkAsItWas(t, p, wantOpOf(sellOf(7, wholeWay(14))), impl.Reply{Request: 7, Said: impl.SaidFull})
	next, _ := checkOp(t, p, crashOp(mostLog+1))
	if next.Log != "" || next.Synced != 0 {
		t.Errorf("a crash leaves %s", tell(next))
	}
	next, _ = checkOp(t, p, crashOp(mostLog))
	if len(next.Log) != mostLog || next.Synced != mostLog || !sameOffice(next.Office, p.Start) {
		t.Errorf("a crash leaves %s", tell(next))
	}
	next, _ = checkOp(t, p, syncOp())
	if next.Synced != mostLog+1 || next.Log != p.Log {
		t.Errorf("made safe is %s", tell(next))
	}
}

// A sale that a full office refuses is said to be refused by the same word.
func TestAnOfficeThatIsFull(t *testing.T) {
	p := checkStarted(t, plainOrders(t, 100))
	w := sellOf(500, plainWay(14))
	next, r := checkOp(t, p, wantOpOf(w))
	if r != (impl.Reply{Request: 500, Said: impl.SaidFull}) || next.Log != logOfWants([]impl.Want{w}) || len(next.Office.Told) != len(p.Office.Told)+1 {
		t.Errorf("said %+v, %s", r, clip(next.Log))
	}
	checkPlatform(t, next, true)
}

func TestARequestThatWasTold(t *testing.T) {
	p := smallPlatform(t)
	session := someSession()
	replies := []impl.Reply{}
	for _, w := range session {
		next, r := checkOp(t, p, wantOpOf(w))
		p, replies = next, append(replies, r)
	}
	for i, w := range session {
		checkAsItWas(t, p, wantOpOf(w), replies[i])
		for _, other := range []impl.Want{{}, sellOf(0, plainWay(20)), untold("x"), backOf(0, 1), dayOf(0, 20), {Kind: mostWanted, Order: 7, Card: 9, Class: 9}} {
			other.Request = w.Request
			checkAsItWas(t, p, wantOpOf(other), replies[i])
		}
	}
	safe := checkOps(t, p, syncOp())
	for i, w := range session {
		checkAsItWas(t, safe, wantOpOf(w), replies[i])
	}
	if replies[0].Said != impl.SaidDone || replies[2].Said == impl.SaidDone {
		t.Errorf("said were %+v", replies)
	}
}

// What was told ahead of the start is told again and is not written down.
func TestARequestThatWasToldAheadOfTheStart(t *testing.T) {
	o := busyOffice(t)
	p := checkStarted(t, o)
	for _, r := range o.Told {
		checkAsItWas(t, p, wantOpOf(sellOf(r.Request, wholeWay(20))), r)
	}
	p.Office.Told = append(p.Office.Told, impl.Reply{Request: 0, Said: 44, Order: -1, Amount: 9})
	checkAsItWas(t, p, wantOpOf(sellOf(0, wholeWay(20))), impl.Reply{Said: 44, Order: -1, Amount: 9})
}

// Such wants are written down each time, as they are not told.
func TestWantsThatNoOfficeRemembers(t *testing.T) {
	for _, w := range []impl.Want{{}, sellOf(0, wholeWay(14)), untold("x"), {Kind: 4, Request: 7}, {Kind: mostWanted, Request: mostWanted}} {
		p := smallPlatform(t)
		for i := range 3 {
			next, r := checkOp(t, p, wantOpOf(w))
			if r != (impl.Reply{Request: w.Request, Said: impl.SaidBad}) || !sameOffice(next.Office, p.Office) || next.Log != logOfWants(slices.Repeat([]impl.Want{w}, i+1)) {
				t.Fatalf("%+v was said %+v: %s", w, r, tell(next))
			}
			checkPlatform(t, next, true)
			p = next
		}
	}
	o := smallOffice(t)
	for i := range mostTold {
		o.Told = append(o.Told, impl.Reply{Request: i + 1})
	}
	p := checkStarted(t, o)
	next, r := checkOp(t, p, wantOpOf(dayOf(301, 9)))
	if r != (impl.Reply{Request: 301, Said: impl.SaidBad}) || !sameOffice(next.Office, o) || next.Log != logOfWants([]impl.Want{dayOf(301, 9)}) {
		t.Errorf("with 300 told: %+v, %s", r, tell(next))
	}
	checkAsItWas(t, p, wantOpOf(dayOf(300, 9)), impl.Reply{Request: 300})
}

func TestMadeSafe(t *testing.T) {
	for _, p := range []impl.Platform{{}, smallPlatform(t), busyPlatform(t), {Log: "not whole", Synced: 3}} {
		for _, synced := range append([]int{0, len(p.Log)}, edgeNumbers...) {
			p.Synced = synced
			for _, op := range []impl.Op{syncOp(), {Kind: impl.OpSync, Want: sellOf(90, wholeWay(14)), Keep: 5}, {Kind: impl.OpSync, Keep: -1}} {
				next, r := checkOp(t, p, op)
				want := copiedPlatform(p)
				want.Synced = len(p.Log)
				if r != (impl.Reply{}) || !samePlatform(next, want) {
					t.Fatalf("made safe, %s is %s, %+v", tell(p), tell(next), r)
				}
			}
		}
	}
}

// Each number of records is made safe, and each number of bytes behind them
// is kept.
func TestACrashThatKeepsAnyBytes(t *testing.T) {
	session := someSession()[:6]
	for safe := range len(session) + 1 {
		p := checkWanted(t, smallPlatform(t), session[:safe]...)
		p = checkWanted(t, checkOps(t, p, syncOp()), session[safe:]...)
		rest := len(p.Log) - p.Synced
		for keep := -2; keep <= rest+2; keep++ {
			whole := safe
			for whole < len(session) && len(logOfWants(session[:whole+1])) <= p.Synced+keep {
				whole++
			}
			checkLeft(t, p, keep, session[:whole])
		}
		for _, keep := range edgeNumbers {
			if keep <= 0 {
				checkLeft(t, p, keep, session[:safe])
			} else if keep >= rest {
				checkLeft(t, p, keep, session)
			}
		}
	}
}

func TestACrashAtTheEndsOfARecord(t *testing.T) {
	session := someSession()[:3]
	p := checkWanted(t, checkOps(t, checkWanted(t, smallPlatform(t), session[0]), syncOp()), session[1:]...)
	one, two := len(logOfWants(session[1:2])), len(logOfWants(session[1:]))
	for keep, left := range map[int]int{
		math.MinInt: 1, -1: 1, 0: 1, 1: 1, 7: 1, 8: 1, 9: 1, one - 1: 1, one: 2, one + 1: 2, one + 8: 2, two - 1: 2, two: 3, two + 1: 3, math.MaxInt - p.Synced: 3, math.MaxInt - p.Synced + 1: 3, math.MaxInt: 3,
	} {
		next := checkLeft(t, p, keep, session[:left])
		checkLeft(t, next, 0, session[:left])
		checkLeft(t, next, math.MaxInt, session[:left])
		checkLeft(t, next, math.MinInt, session[:left])
	}
}

func TestACrashAheadOfAnythingSafe(t *testing.T) {
	p := smallPlatform(t)
	for _, keep := range []int{math.MinInt, -1, 0, 1, math.MaxInt} {
		checkLeft(t, p, keep, nil)
	}
	session := someSession()
	p = checkWanted(t, p, session...)
	checkLeft(t, p, -1, nil)
	checkLeft(t, p, 0, nil)
	checkLeft(t, p, 1, nil)
	checkLeft(t, p, len(logOfWants(session[:1])), session[:1])
	checkLeft(t, p, len(p.Log), session)
	checkLeft(t, p, len(p.Log)+1, session)
}

// What a crash has left is safe from the next.
func TestTwoCrashesInARow(t *testing.T) {
	session := someSession()
	p := checkWanted(t, smallPlatform(t), session...)
	for i := range len(session) + 1 {
		left := checkLeft(t, p, len(logOfWants(session[:i]))+3, session[:i])
		again := checkLeft(t, left, 0, session[:i])
		if !samePlatform(left, again) {
			t.Fatalf("%s became %s", tell(left), tell(again))
		}
		more := checkWanted(t, again, sellOf(50, plainWay(20)))
		checkLeft(t, more, 0, session[:i])
		checkLeft(t, more, math.MaxInt, append(slices.Clone(session[:i]), sellOf(50, plainWay(20))))
	}
}

func TestACrashBehindASync(t *testing.T) {
	session := someSession()
	p := checkOps(t, checkWanted(t, smallPlatform(t), session...), syncOp())
	for _, keep := range append([]int{-1, 0, 1, 20}, edgeNumbers...) {
		if next := checkLeft(t, p, keep, session); !samePlatform(next, p) {
			t.Fatalf("%s became %s", tell(p), tell(next))
		}
	}
}

// Synced bytes may be told that are none, or that end within a record.
func TestACrashAtAnySafeBytes(t *testing.T) {
	session := someSession()[:3]
	p := checkWanted(t, smallPlatform(t), session...)
	first := len(logOfWants(session[:1]))
	for _, n := range []struct{ synced, keep, left int }{
		{math.MinInt, 0, 0}, {math.MinInt, first, 1}, {math.MinInt, first - 1, 0}, {-1, first, 1}, {-1, first + 1, 1}, {-first, first, 1}, {-1, math.MaxInt, 3}, {math.MinInt, math.MinInt, 0},
		{first - 1, 0, 0}, {first - 1, 1, 1}, {first + 1, 0, 1}, {first + 1, -1, 1}, {1, math.MaxInt, 3}, {first + 1, math.MaxInt, 3},
		{len(p.Log), -1, 3}, {len(p.Log) + 1, -1, 3}, {len(p.Log) + 1, 1, 3}, {math.MaxInt, 0, 3}, {math.MaxInt, math.MinInt, 3}, {math.MaxInt, math.MaxInt, 3},
	} {
		p.Synced = n.synced
		checkLeft(t, p, n.keep, session[:n.left])
	}
	for _, synced := range edgeNumbers {
		for _, keep := range edgeNumbers {
			p.Synced = synced
			checkOp(t, p, crashOp(keep))
		}
	}
}

func TestACrashOfALogThatIsNotWhole(t *testing.T) {
	session := someSession()[:3]
	for _, behind := range []string{"x", "\x00\x00\x00\x00\x00\x00\x01", "\x00\x00\x00\x09\x00", toldRecord(2, 0, "ab"), toldRecord(3001, 0, "")} {
		p := checkWanted(t, smallPlatform(t), session[:2]...)
		p.Log += behind + logOfWants(session[2:])
		p.Synced = len(p.Log)
		checkLeft(t, p, 0, session[:2])
		p.Synced = 0
		checkLeft(t, p, math.MaxInt, session[:2])
	}
}

// A record that is no want is left, and what stands behind it, but not done.
func TestACrashOfALogWithARecordThatIsNoWant(t *testing.T) {
	session := someSession()[:3]
	for _, s := range noWants() {
		p := checkWanted(t, smallPlatform(t), session[:1]...)
		sold := p.Office
		p.Log += recordOf(s) + logOfWants(session[1:])
		next, _ := checkOp(t, p, crashOp(len(p.Log)))
		if next.Log != p.Log || next.Synced != len(p.Log) || !sameOffice(next.Office, sold) {
			t.Fatalf("with %s a crash leaves %s", clip(s), tell(next))
		}
		checkPlatform(t, next, true)
	}
}

func TestACrashOfAnOfficeThatIsNotWhatTheLogMakes(t *testing.T) {
	session := someSession()
	p := checkWanted(t, smallPlatform(t), session...)
	for _, o := range []impl.Office{{}, busyOffice(t), smallOffice(t)} {
		p.Office = o
		checkLeft(t, p, math.MaxInt, session)
		checkLeft(t, p, 0, nil)
	}
}

func runBySteps(p impl.Platform, ops []impl.Op) (impl.Platform, []impl.Reply) {
	replies := []impl.Reply{}
	p = copiedPlatform(p)
	for _, op := range ops {
		var r impl.Reply
		p, r = wantOp(p, op)
		replies = append(replies, r)
	}
	return p, replies
}

func roomyOps(ops []impl.Op) []impl.Op {
	ops = withRoom(ops, impl.Op{Kind: 7})
	for i := range ops {
		ops[i].Want.Rides = withRoom(ops[i].Want.Rides, impl.Ride{Day: 7})
	}
	return ops
}

func sameOp(a, b impl.Op) bool {
	return a.Kind == b.Kind && a.Keep == b.Keep && sameWant(a.Want, b.Want)
}

func wholeOps(ops []impl.Op) []impl.Op {
	whole := slices.Clone(ops[:cap(ops)])
	for i := range whole {
		whole[i].Want.Rides = slices.Clone(whole[i].Want.Rides[:cap(whole[i].Want.Rides)])
	}
	return whole
}

func checkRun(t *testing.T, p impl.Platform, ops ...impl.Op) (impl.Platform, []impl.Reply) {
	t.Helper()
	want, said := p, []impl.Reply{}
	if len(ops) <= mostOps {
		want, said = runBySteps(p, ops)
	}
	asked, askedOps := roomyPlatform(p), roomyOps(ops)
	kept, keptOps := wholePlatform(asked), wholeOps(askedOps)
	next, replies := impl.PlatformRun(asked, askedOps)
	if !slices.Equal(replies, said) || !samePlatform(next, want) {
		t.Fatalf("PlatformRun(%s, %d ops) = %s, %+v, want %s, %+v", tell(p), len(ops), tell(next), replies, tell(want), said)
	}
	if !samePlatform(wholePlatform(asked), kept) || !slices.EqualFunc(wholeOps(askedOps), keptOps, sameOp) {
		t.Fatalf("PlatformRun wrote into %s or %+v", tell(asked), askedOps)
	}
	spans := platformSpans(asked)
	for _, op := range askedOps {
		spans = append(spans, wantSpans(op.Want)...)
	}
	checkNew(t, platformSpans(next), spans)
	checkApart(t, slices.Concat(listSpans(next.Start), listSpans(next.Office), []span{listSpan(replies)}))
	return next, replies
}

func opsOf(list []impl.Want) []impl.Op {
	ops := []impl.Op{}
	for _, w := range list {
		ops = append(ops, wantOpOf(w))
	}
	return ops
}

func TestRuns(t *testing.T) {
	session := someSession()
	for _, p := range []impl.Platform{smallPlatform(t), busyPlatform(t), {}, {Log: "not whole", Synced: -5}} {
		checkRun(t, p)
		checkRun(t, p, syncOp())
		checkRun(t, p, impl.Op{Kind: 3}, impl.Op{Kind: -1})
		next, replies := checkRun(t, p, opsOf(session)...)
		if len(replies) != len(session) {
			t.Fatalf("%d replies", len(replies))
		}
		checkRun(t, next, opsOf(backwards(session))...)
		checkRun(t, p, append(append(opsOf(session[:3]), syncOp(), wantOpOf(session[4]), crashOp(9), impl.Op{Kind: 9}), opsOf(session)...)...)
	}
	next, replies := checkRun(t, smallPlatform(t), opsOf(session)...)
	checkPlatform(t, next, true)
	if !slices.Equal(replies, next.Office.Told) {
		t.Errorf("said were %+v, told are %+v", replies, next.Office.Told)
	}
}

func TestRunsAreCounted(t *testing.T) {
	for _, n := range []int{0, 1, 2, 299, 300, 301, 302, 1000} {
		p, ops := smallPlatform(t), []impl.Op{}
		for i := range n {
			ops = append(ops, wantOpOf(dayOf(i+1, startDay+i+1)))
		}
		next, replies := checkRun(t, p, ops...)
		if n > mostOps {
			if len(replies) != 0 || !samePlatform(next, p) {
				t.Fatalf("of %d ops %d were done", n, len(replies))
			}
			continue
		}
		checkPlatform(t, next, true)
		if len(replies) != n || next.Office.Today != startDay+n {
			t.Fatalf("of %d ops %d were done", n, len(replies))
		}
	}
}

func TestARunOfCrashes(t *testing.T) {
	p := filled(t, mostLog)
	next, replies := checkRun(t, p, slices.Repeat([]impl.Op{crashOp(math.MaxInt)}, 6)...)
	if !slices.Equal(replies, make([]impl.Reply, 6)) || next.Log != p.Log || !sameOffice(next.Office, p.Office) {
		t.Errorf("%s became %s", tell(p), tell(next))
	}
}

// diary has what was written down of a platform since its start: the wants,
// where the record of each ends, what the first of them make of the start,
// and how many are safe.
type diary struct {
	wants   []impl.Want
	ends    []int
	offices []impl.Office
	safe    int
}

func newDiary(start impl.Office) *diary {
	return &diary{ends: []int{0}, offices: []impl.Office{copiedOffice(start)}}
}

func (d *diary) add(w impl.Want) {
	last := len(d.wants)
	o, _ := wantDo(d.offices[last], w)
	d.wants = append(d.wants, w)
	d.ends = append(d.ends, d.ends[last]+len(recordOf(lineOfWant(w))))
	d.offices = append(d.offices, o)
}

// cut is what a crash does; at least what is safe is left.
func (d *diary) cut(keep int) {
	left := d.safe
	for left < len(d.wants) && d.ends[left+1]-d.ends[d.safe] <= keep {
		left++
	}
	d.wants, d.ends, d.offices, d.safe = d.wants[:left], d.ends[:left+1], d.offices[:left+1], left
}

func (d *diary) check(t *testing.T, p impl.Platform) {
	t.Helper()
	last := len(d.wants)
	if len(p.Log) != d.ends[last] || p.Synced != d.ends[d.safe] || !sameOffice(p.Office, d.offices[last]) || !sameOffice(p.Start, d.offices[0]) || !impl.PlatformOk(p) {
		t.Fatalf("behind %d wants, of which %d are safe, there is %s", last, d.safe, tell(p))
	}
}

// soldOnce asks that no request has sold two orders: each has a name of its
// own, which only a change hands on to another order.
func soldOnce(t *testing.T, o impl.Office) {
	t.Helper()
	names := map[string]int{}
	for _, x := range o.Orders {
		names[x.Name]++
	}
	changed := 0
	for _, x := range o.Orders {
		if x.State == impl.OrderChanged {
			changed++
		}
	}
	if len(o.Orders)-len(names) != changed {
		t.Fatalf("%d orders of %d names, of which %d were changed", len(o.Orders), len(names), changed)
	}
}

func anyOp(r *rand.Rand, p impl.Platform, stations int) impl.Op {
	switch r.Intn(12) {
	case 0:
		return syncOp()
	case 1, 2:
		rest := len(p.Log) - p.Synced
		return crashOp([]int{-1, 0, 1, r.Intn(rest + 1), r.Intn(rest + 1), rest, rest + 1, math.MinInt, math.MaxInt}[r.Intn(9)])
	case 3:
		return impl.Op{Kind: []int{-1, 3, math.MinInt, math.MaxInt}[r.Intn(4)]}
	}
	w := anyWant(r, p.Office, stations)
	w.Request = r.Intn(60)
	w.Name = fmt.Sprintf("request %d", w.Request)
	return wantOpOf(w)
}

// Whatever is wanted, made safe and cut off.
func TestAnySessionOfAPlatform(t *testing.T) {
	r := rand.New(rand.NewSource(21))
	met := map[string]int{}
	for range 60 {
		stations := 2 + r.Intn(4)
		p := checkStarted(t, anyOffice(t, r, stations))
		d := newDiary(p.Start)
		for range 100 {
			op := anyOp(r, p, stations)
			before := p
			next, reply := checkOp(t, p, op)
			p = next
			switch {
			case op.Kind == impl.OpSync:
				d.safe = len(d.wants)
			case op.Kind == impl.OpCrash:
				ahead := len(d.wants)
				d.cut(op.Keep)
				met[fmt.Sprint("lost: ", ahead > len(d.wants))]++
			case p.Log != before.Log:
				d.add(op.Want)
				met[fmt.Sprint("said ", reply.Said)]++
			default:
				met["as it was"]++
			}
			d.check(t, p)
			soldOnce(t, p.Office)
		}
	}
	for _, s := range []string{"lost: true", "lost: false", "said 0", "said 1", "said 2", "said 3", "said 4", "said 6", "as it was"} {
		if met[s] < 20 {
			t.Errorf("%s was met %d times only: %v", s, met[s], met)
		}
	}
}

// resend sends a session again, and asks that each of its wants is answered
// as it was and done once.
func resend(t *testing.T, p impl.Platform, session []impl.Want, replies []impl.Reply) impl.Platform {
	t.Helper()
	for i, w := range session {
		next, r := checkOp(t, p, wantOpOf(w))
		if r != replies[i] {
			t.Fatalf("%+v was said %+v, sent again %+v", w, replies[i], r)
		}
		checkPlatform(t, next, true)
		p = next
	}
	return p
}

func TestASessionThatIsSentAgain(t *testing.T) {
	session := someSession()
	whole, replies := checkRun(t, smallPlatform(t), opsOf(session)...)
	for safe := range len(session) + 1 {
		p := checkOps(t, checkWanted(t, smallPlatform(t), session[:safe]...), syncOp())
		p = checkWanted(t, p, session[safe:]...)
		for left := safe; left <= len(session); left++ {
			keep := len(logOfWants(session[safe:left]))
			for _, torn := range []int{0, 3} {
				lost := checkLeft(t, p, keep+torn, session[:left])
				if again := resend(t, lost, session[:left], replies[:left]); !samePlatform(again, lost) {
					t.Fatalf("what was not lost and is sent again makes %s of %s", tell(again), tell(lost))
				}
				again := resend(t, lost, session, replies)
				if again.Log != whole.Log || !sameOffice(again.Office, whole.Office) {
					t.Fatalf("sent again, the session makes %s, want %s", tell(again), tell(whole))
				}
				if twice := resend(t, again, session, replies); !samePlatform(twice, again) {
					t.Fatalf("sent twice, the session makes %s of %s", tell(twice), tell(again))
				}
			}
		}
	}
}

// What was lost may be wanted otherwise, and is then another thing.
func TestAWantThatWasLostIsAnswered(t *testing.T) {
	p := checkWanted(t, smallPlatform(t), sellOf(1, wholeWay(14)))
	lost := checkLeft(t, p, 5, nil)
	next, r := checkOp(t, lost, wantOpOf(sellOf(1, plainWay(14))))
	if r != (impl.Reply{Request: 1, Order: 1, Amount: 250}) || len(next.Office.Orders) != 1 || next.Office.Orders[0].Price != 250 {
		t.Errorf("%+v, %s", r, tell(next))
	}
	checkAsItWas(t, next, wantOpOf(sellOf(1, wholeWay(14))), r)
}

// anyPlatform is as a rule none that is PlatformOk.
func anyPlatform(t *testing.T, r *rand.Rand, stations int) impl.Platform {
	t.Helper()
	p := impl.Platform{Start: anyOffice(t, r, stations)}
	p.Office = copiedOffice(p.Start)
	if r.Intn(3) == 0 {
		p.Office = anyOffice(t, r, stations)
	}
	for range r.Intn(6) {
		switch r.Intn(6) {
		case 0:
			p.Log += recordOf(noWants()[r.Intn(len(noWants()))])
		case 1:
			p.Log += "\x00\x00\x00\x01 torn"[:1+r.Intn(8)]
		default:
			p.Log += recordOf(lineOfWant(anyWrittenWant(r)))
		}
	}
	p.Synced = []int{-1, 0, len(p.Log), len(p.Log) + 1, r.Intn(len(p.Log) + 1), math.MinInt, math.MaxInt}[r.Intn(7)]
	return p
}

func TestAnyPlatform(t *testing.T) {
	r := rand.New(rand.NewSource(22))
	right := [2]int{}
	for range 400 {
		stations := 2 + r.Intn(4)
		p := anyPlatform(t, r, stations)
		checkRebuild(t, p.Start, p.Log)
		for range 8 {
			ok := rightPlatform(p)
			checkPlatform(t, p, ok)
			if ok {
				right[1]++
			} else {
				right[0]++
			}
			op := impl.Op{Kind: r.Intn(5) - 1, Want: anyWant(r, p.Office, stations), Keep: []int{-1, 0, 1, r.Intn(100), math.MinInt, math.MaxInt}[r.Intn(6)]}
			checkRun(t, p, op, op)
			p, _ = checkOp(t, p, op)
		}
	}
	if right[0] < 200 || right[1] < 200 {
		t.Errorf("wrong and right ones: %v", right)
	}
}

func wantText(o impl.Office) string {
	text := fmt.Sprintf("today %d\n", o.Today)
	for _, x := range o.Orders {
		text += fmt.Sprintf("order %d %d %d %d %d %d %d %s\n", x.Id, x.State, x.Class, x.Card, x.Price, x.Paid, x.First, x.Name)
	}
	for _, h := range o.Holds {
		text += fmt.Sprintf("hold %d %d %d %d %d %d %d\n", h.Train, h.Day, h.Coach, h.Seat, h.A, h.B, h.Order)
	}
	for _, r := range o.Told {
		text += fmt.Sprintf("told %d %d %d %d\n", r.Request, r.Said, r.Order, r.Amount)
	}
	return text
}

func checkText(t *testing.T, o impl.Office, want string) {
	t.Helper()
	if told := wantText(o); told != want {
		t.Fatalf("the test itself tells %q, want %q", told, want)
	}
	asked := roomyOffice(o)
	kept := wholeOffice(asked)
	got := impl.OfficeText(asked)
	if got != want {
		t.Fatalf("OfficeText(%+v) = %q, want %q", o, got, want)
	}
	if !sameOffice(wholeOffice(asked), kept) {
		t.Fatalf("OfficeText wrote into %+v", asked)
	}
	checkNew(t, []span{textSpan(got)}, textSpans(asked))
}

func TestTextsOfOffices(t *testing.T) {
	checkText(t, impl.Office{}, "today 0\n")
	checkText(t, smallOffice(t), "today 5\n")
	checkText(t, busyOffice(t), "today 5\n"+
		"order 1 1 2 0 1350 1350 14 A B\norder 2 3 2 0 500 0 14 A B\norder 3 2 2 0 250 63 9 A B\norder 4 1 2 0 950 950 14 A B\n"+
		"hold 10 14 1 1 0 2 1\nhold 10 14 1 2 1 2 4\n"+
		"told 1 0 1 1350\ntold 2 0 2 500\ntold 3 0 3 250\ntold 4 0 4 450\ntold 5 0 3 -187\n")
	order := impl.Order{Id: 2, State: 3, Name: " x  y ", Class: 4, Card: 5, Rides: someRides(3), Price: 6, Paid: 7, First: 8}
	hold := impl.Hold{Train: 1, Day: 2, Coach: 3, Seat: 4, A: 5, B: 6, Order: 7}
	reply := impl.Reply{Request: 1, Said: 2, Order: 3, Amount: 4}
	checkText(t, impl.Office{Orders: []impl.Order{order}, Today: 9}, "today 9\norder 2 3 4 5 6 7 8  x  y \n")
	checkText(t, impl.Office{Holds: []impl.Hold{hold}}, "today 0\nhold 1 2 3 4 5 6 7\n")
	checkText(t, impl.Office{Told: []impl.Reply{reply}}, "today 0\ntold 1 2 3 4\n")
	checkText(t, impl.Office{Told: []impl.Reply{reply, {}}, Holds: []impl.Hold{{}, hold}, Orders: []impl.Order{{}, order}, Today: -3},
		"today -3\norder 0 0 0 0 0 0 0 \norder 2 3 4 5 6 7 8  x  y \nhold 0 0 0 0 0 0 0\nhold 1 2 3 4 5 6 7\ntold 1 2 3 4\ntold 0 0 0 0\n")
	checkText(t, impl.Office{Lines: smallLines(), Tariff: smallTariff(), Today: 90000}, "today 90000\n")
}

// The name is told as it is, behind one blank, be it none at all.
func TestNamesInTheTextOfAnOffice(t *testing.T) {
	for _, name := range append([]string{"", " ", "  ", "\n", "a\nb", "\x00", "\xff\xfe", "Zoë", strings.Repeat("long ", 5000)}, append(someNames(), digitNames()...)...) {
		checkText(t, impl.Office{Orders: []impl.Order{{Id: 1, Name: name}}}, "today 0\norder 1 0 0 0 0 0 0 "+name+"\n")
	}
}

func TestNumbersInTheTextOfAnOffice(t *testing.T) {
	least, most := "-9223372036854775808", "9223372036854775807"
	checkText(t, impl.Office{Today: math.MinInt}, "today "+least+"\n")
	checkText(t, impl.Office{Today: math.MaxInt}, "today "+most+"\n")
	checkText(t, impl.Office{Today: -1, Told: []impl.Reply{{Request: -1, Said: math.MinInt, Order: math.MaxInt, Amount: -10}}}, "today -1\ntold -1 "+least+" "+most+" -10\n")
	busy := busyPlatform(t).Office
	for i := range len(numberPlaces(&busy)) {
		for _, n := range edgeNumbers {
			o := copiedOffice(busy)
			*numberPlaces(&o)[i] = n
			checkText(t, o, wantText(o))
		}
	}
	for i := range 19 {
		for _, n := range edgeNumbers {
			o := impl.Office{Holds: []impl.Hold{{}}, Orders: []impl.Order{{}}, Told: []impl.Reply{{}}}
			*numberPlaces(&o)[i] = n
			checkText(t, o, wantText(o))
		}
	}
}

func TestTextsOfGreatOffices(t *testing.T) {
	o := crowdedOffice(t, 100)
	checkText(t, o, wantText(o))
	for i := range 2000 {
		o.Told = append(o.Told, impl.Reply{Request: i, Amount: -i})
		o.Holds = append(o.Holds, impl.Hold{Train: i, Order: -i})
		o.Orders = append(o.Orders, impl.Order{Id: i, Name: "n"})
	}
	checkText(t, o, wantText(o))
}

// No two lists of an answer share memory, be it that those of the argument do.
func TestListsOfAPlatformAreApart(t *testing.T) {
	o := sharingOffice()
	p, ok := impl.PlatformStart(o)
	checkNew(t, platformSpans(p), slices.Concat(listSpans(o), textSpans(o)))
	checkApart(t, slices.Concat(listSpans(p.Start), listSpans(p.Office)))
	if !ok {
		t.Fatal("no start")
	}
	shared := impl.Platform{Start: o, Office: o}
	rides := []impl.Ride{wholeWay(14), plainWay(14)}
	for _, op := range []impl.Op{wantOpOf(sellOf(1, rides...)), wantOpOf(changeOf(1, 1, rides...)), wantOpOf(sellOf(1)), wantOpOf(impl.Want{Order: -1}), syncOp(), crashOp(3), {Kind: 9}} {
		for _, ops := range [][]impl.Op{{op}, {op, op}, {op, wantOpOf(sellOf(2, rides...)), crashOp(math.MaxInt)}, slices.Repeat([]impl.Op{op}, 301)} {
			next, replies := impl.PlatformRun(shared, ops)
			checkApart(t, slices.Concat(listSpans(next.Start), listSpans(next.Office), []span{listSpan(replies)}))
			checkNew(t, platformSpans(next), slices.Concat(platformSpans(shared), []span{listSpan(rides)}))
		}
		next, _ := impl.PlatformDo(shared, op)
		checkApart(t, slices.Concat(listSpans(next.Start), listSpans(next.Office)))
		checkNew(t, platformSpans(next), slices.Concat(platformSpans(shared), []span{listSpan(rides)}))
	}
	if rides[0] != wholeWay(14) || rides[1] != plainWay(14) || !sameOffice(o, sharingOffice()) {
		t.Errorf("%+v and %+v were written into", rides, o)
	}
}

func TestPlatformsThatWereToldStayAsTheyWere(t *testing.T) {
	r := rand.New(rand.NewSource(23))
	for range 15 {
		stations := 2 + r.Intn(4)
		list := []impl.Platform{checkStarted(t, anyOffice(t, r, stations))}
		kept := []impl.Platform{copiedPlatform(list[0])}
		for range 40 {
			from := list[r.Intn(len(list))]
			next, _ := impl.PlatformDo(from, anyOp(r, from, stations))
			list, kept = append(list, next), append(kept, copiedPlatform(next))
		}
		for i := range list {
			if !samePlatform(list[i], kept[i]) {
				t.Fatalf("platform %d was %s and is %s", i, tell(kept[i]), tell(list[i]))
			}
		}
	}
}

// Calls at the same time have nothing to do with each other.
func TestPlatformsAtTheSameTime(t *testing.T) {
	p := busyPlatform(t)
	var group sync.WaitGroup
	wrong := make([]int, 8)
	for i := range wrong {
		group.Go(func() {
			for j := range 40 {
				op := []impl.Op{wantOpOf(sellOf(100*i+j+20, plainWay(20))), syncOp(), crashOp(10 * j), {Kind: 9}}[j%4]
				want, said := wantOp(p, op)
				if next, r := impl.PlatformDo(p, op); r != said || !samePlatform(next, want) {
					wrong[i]++
				}
			}
		})
	}
	group.Wait()
	if slices.Max(wrong) > 0 {
		t.Errorf("wrong answers: %v", wrong)
	}
}

func TestPlatformsAnswerAtAnyArguments(t *testing.T) {
	for _, a := range edgeNumbers {
		for _, b := range edgeNumbers {
			o := oddOffice(t, a, b)
			o.Today = b
			log := logOfWants([]impl.Want{sellOf(31, wholeWay(14)), backOf(32, 5), changeOf(33, 1, wholeWay(14)), {Kind: 7}})
			p := impl.Platform{Start: o, Office: o, Log: log, Synced: a}
			checkStart(t, o)
			checkRebuild(t, o, log)
			checkPlatform(t, p, rightPlatform(p))
			checkOp(t, p, impl.Op{Kind: a, Keep: b})
			checkOp(t, p, crashOp(b))
			checkOp(t, p, wantOpOf(impl.Want{Kind: a, Request: b, Order: a, Class: b, Card: a, Rides: []impl.Ride{{Train: a, Day: b, From: b, To: a}}}))
			checkRun(t, p, wantOpOf(backOf(40, 5)), crashOp(a), syncOp(), wantOpOf(changeOf(41, 5, wholeWay(14))), crashOp(b))
			checkText(t, o, wantText(o))
		}
	}
}
