package tests

import (
	"fmt"
	"math"
	"math/rand"
	"slices"
	"strings"
	"sync"
	"testing"

	"loop.example/g00211/impl"
)

const (
	mostOff  = 200
	mostSeen = 300
)

// The ticket that most tests here control goes by train 10 on day 14 and by
// train 20 on day 15, and is good from day 13 to day 16.
func handTicket() impl.Ticket {
	x := someTicket()
	x.First, x.Last = 13, 16
	return x
}

func issuedText(t *testing.T, x impl.Ticket) string {
	t.Helper()
	framed, ok := checkIssue(t, ticketParams, ticketSecret, ticketIssuer, x, []int{5, 9, 11, 13})
	if !ok {
		t.Fatalf("%+v is not issued", x)
	}
	return framed
}

func someHand() impl.Hand {
	return impl.Hand{Device: 1, Params: ticketParams, Open: openOf(ticketParams, ticketSecret), Issuer: ticketIssuer}
}

func seenOf(device int, list ...impl.Control) []impl.Control {
	list = slices.Clone(list)
	for i := range list {
		list[i].Device, list[i].No = device, i+1
	}
	return list
}

func manySeen(device, n int) []impl.Control {
	list := make([]impl.Control, n)
	for i := range list {
		list[i] = impl.Control{Ticket: 1000 + i, Train: 1 + i%30, Day: i % 9, Said: i % 6}
	}
	return seenOf(device, list...)
}

func manyOff(n int) []int {
	list := make([]int, n)
	for i := range list {
		list[i] = 2000 + 3*i
	}
	return list
}

func handWith(off []int, seen ...impl.Control) impl.Hand {
	h := someHand()
	h.Version, h.Off, h.Seen = 4, off, seenOf(h.Device, seen...)
	return h
}

// busyHand has both lists, and nothing in them of the ticket that is controlled.
func busyHand() impl.Hand {
	return handWith(manyOff(20), manySeen(1, 10)...)
}

func copiedHand(h impl.Hand) impl.Hand {
	h.Off, h.Seen = slices.Clone(h.Off), slices.Clone(h.Seen)
	return h
}

func roomyHand(h impl.Hand) impl.Hand {
	h.Off, h.Seen = withRoom(h.Off, 7), withRoom(h.Seen, impl.Control{Ticket: 7})
	return h
}

func wholeHand(h impl.Hand) impl.Hand {
	h.Off, h.Seen = slices.Clone(h.Off[:cap(h.Off)]), slices.Clone(h.Seen[:cap(h.Seen)])
	return h
}

func sameHand(a, b impl.Hand) bool {
	return a.Device == b.Device && a.Params == b.Params && a.Open == b.Open && a.Issuer == b.Issuer && a.Version == b.Version &&
		slices.Equal(a.Off, b.Off) && slices.Equal(a.Seen, b.Seen)
}

func handSpans(h impl.Hand) []span {
	return []span{listSpan(h.Off), listSpan(h.Seen)}
}

// tellHand keeps what is said of a device with great lists short.
func tellHand(h impl.Hand) string {
	return fmt.Sprintf("{device %d, %v, open %d, issuer %d, version %d, %d off %.60v, %d seen %.200v}", h.Device, h.Params, h.Open, h.Issuer, h.Version, len(h.Off), fmt.Sprint(h.Off), len(h.Seen), fmt.Sprint(h.Seen))
}

func rightOff(list []int) bool {
	sorted := slices.Compact(slices.Sorted(slices.Values(list)))
	outside := slices.ContainsFunc(list, func(id int) bool { return !within(id, 1, 999999999) })
	return len(list) <= mostOff && slices.Equal(sorted, list) && !outside
}

func rightHand(h impl.Hand) bool {
	numbered := seenOf(h.Device, h.Seen...)
	return within(h.Device, 1, 9999) && within(h.Issuer, 0, 9999) && h.Version >= 0 && rightOff(h.Off) && len(h.Seen) <= mostSeen && slices.Equal(numbered, h.Seen)
}

// wantCheck gathers all reasons, and answers the least of them, with the
// number of the ticket.
func wantCheck(h impl.Hand, text string, train, day int) (int, int) {
	x, said := wantRead(h.Params, h.Open, h.Issuer, text)
	if !rightHand(h) || !within(train, 1, 9999) || !within(day, 0, 99999) || said != impl.ReadOk {
		return 1, 0
	}
	reasons := []int{}
	if !within(day, x.First, x.Last) {
		reasons = append(reasons, 2)
	}
	legs := 0
	for _, l := range x.Legs {
		if l.Train == train && l.Day == day {
			legs++
		}
	}
	if legs == 0 {
		reasons = append(reasons, 3)
	}
	for _, id := range h.Off {
		if id == x.Id {
			reasons = append(reasons, 4)
		}
	}
	for _, c := range h.Seen {
		if c.Said == 0 && c.Day == day && c.Train == train && c.Ticket == x.Id {
			reasons = append(reasons, 5)
		}
	}
	if len(reasons) == 0 {
		return 0, x.Id
	}
	return slices.Min(reasons), x.Id
}

func wantInspect(h impl.Hand, text string, train, day int) (impl.Hand, int) {
	h = copiedHand(h)
	if !rightHand(h) || !within(train, 1, 9999) || !within(day, 0, 99999) || len(h.Seen) == mostSeen {
		return h, 1
	}
	said, id := wantCheck(h, text, train, day)
	h.Seen = append(h.Seen, impl.Control{Device: h.Device, No: len(h.Seen) + 1, Ticket: id, Train: train, Day: day, Said: said})
	return h, said
}

func wantUpdate(h impl.Hand, version int, off []int) (impl.Hand, bool) {
	h = copiedHand(h)
	if !rightHand(h) || !rightOff(off) || version <= h.Version {
		return h, false
	}
	h.Version, h.Off = version, slices.Clone(off)
	return h, true
}

// checkUntouched asks that nothing was written into a device that was handed
// in, and that what was answered has no memory of it.
func checkUntouched(t *testing.T, asked, kept, answer impl.Hand, more ...span) {
	t.Helper()
	if !sameHand(wholeHand(asked), kept) {
		t.Fatalf("%s was written into: %s", tellHand(kept), tellHand(wholeHand(asked)))
	}
	checkNew(t, handSpans(answer), append(handSpans(asked), more...))
	checkApart(t, handSpans(answer))
}

func checkOff(t *testing.T, list []int, want bool) {
	t.Helper()
	if right := rightOff(list); right != want {
		t.Fatalf("the test itself takes %v for right: %t", list, right)
	}
	asked := withRoom(list, 7)
	kept := slices.Clone(asked[:cap(asked)])
	if got := impl.OffOk(asked); got != want {
		t.Errorf("OffOk(%v) = %t", list, got)
	}
	if !slices.Equal(asked[:cap(asked)], kept) {
		t.Errorf("OffOk wrote into %v", list)
	}
}

func checkHandOk(t *testing.T, h impl.Hand, want bool) {
	t.Helper()
	if right := rightHand(h); right != want {
		t.Fatalf("the test itself takes %s for right: %t", tellHand(h), right)
	}
	asked := roomyHand(h)
	kept := wholeHand(asked)
	if got := impl.HandOk(asked); got != want {
		t.Errorf("HandOk(%s) = %t", tellHand(h), got)
	}
	checkUntouched(t, asked, kept, impl.Hand{})
}

func checkHandStart(t *testing.T, device int, p impl.Params, open, issuer int, want bool) impl.Hand {
	t.Helper()
	will := impl.Hand{Device: device, Params: p, Open: open, Issuer: issuer}
	if right := rightHand(will) && rightParams(p); right != want {
		t.Fatalf("the test itself takes %s for a start: %t", tellHand(will), right)
	}
	if !want {
		will = impl.Hand{}
	}
	h, ok := impl.HandStart(device, p, open, issuer)
	if ok != want || !sameHand(h, will) {
		t.Errorf("HandStart(%d, %v, %d, %d) = %s, %t, want %t", device, p, open, issuer, tellHand(h), ok, want)
	}
	return h
}

// checkInspect asks Check first, which leaves all as it is.
func checkInspect(t *testing.T, h impl.Hand, text string, train, day int) (impl.Hand, int) {
	t.Helper()
	asked := roomyHand(h)
	kept := wholeHand(asked)
	code, _ := wantCheck(h, text, train, day)
	if said := impl.Check(asked, text, train, day); said != code {
		t.Fatalf("Check(%s, %.60q, %d, %d) = %d, want %d", tellHand(h), text, train, day, said, code)
	}
	checkUntouched(t, asked, kept, impl.Hand{})
	want, code := wantInspect(h, text, train, day)
	next, said := impl.Inspect(asked, text, train, day)
	if said != code || !sameHand(next, want) {
		t.Fatalf("Inspect(%s, %.60q, %d, %d) = %s, %d, want %s, %d", tellHand(h), text, train, day, tellHand(next), said, tellHand(want), code)
	}
	checkUntouched(t, asked, kept, next, textSpan(text))
	return next, said
}

// checkSays asks what the control says and that it is written down.
func checkSays(t *testing.T, h impl.Hand, text string, train, day, ticket, code int) impl.Hand {
	t.Helper()
	next, said := checkInspect(t, h, text, train, day)
	last := impl.Control{Device: h.Device, No: len(h.Seen) + 1, Ticket: ticket, Train: train, Day: day, Said: code}
	if said != code || len(next.Seen) != len(h.Seen)+1 || next.Seen[len(h.Seen)] != last {
		t.Fatalf("Inspect(%s, %.60q, %d, %d) = %s, %d, want %+v", tellHand(h), text, train, day, tellHand(next), said, last)
	}
	next.Seen = next.Seen[:len(h.Seen)]
	if !sameHand(next, h) {
		t.Fatalf("behind Inspect %s is %s", tellHand(h), tellHand(next))
	}
	next.Seen = append(next.Seen, last)
	return next
}

// checkNoControl asks for a device as it was, and CheckRead.
func checkNoControl(t *testing.T, h impl.Hand, text string, train, day int) {
	t.Helper()
	if next, said := checkInspect(t, h, text, train, day); said != 1 || !sameHand(next, h) {
		t.Fatalf("Inspect(%s, %.60q, %d, %d) = %s, %d", tellHand(h), text, train, day, tellHand(next), said)
	}
	q, _ := wantPaint(text)
	if next, said := checkSquare(t, h, q, train, day); said != 1 || !sameHand(next, h) {
		t.Fatalf("InspectFrame(%s, of %.60q, %d, %d) = %s, %d", tellHand(h), text, train, day, tellHand(next), said)
	}
}

func checkUpdate(t *testing.T, h impl.Hand, version int, off []int, want bool) impl.Hand {
	t.Helper()
	will, right := wantUpdate(h, version, off)
	if right != want {
		t.Fatalf("the test itself takes an update of %s to %d with %v for right: %t", tellHand(h), version, off, right)
	}
	asked, list := roomyHand(h), withRoom(off, 7)
	kept, keptList := wholeHand(asked), slices.Clone(list[:cap(list)])
	next, ok := impl.HandUpdate(asked, version, list)
	if ok != want || !sameHand(next, will) {
		t.Fatalf("HandUpdate(%s, %d, %v) = %s, %t, want %s, %t", tellHand(h), version, off, tellHand(next), ok, tellHand(will), want)
	}
	if !slices.Equal(list[:cap(list)], keptList) {
		t.Fatalf("HandUpdate wrote into %v", off)
	}
	checkUntouched(t, asked, kept, next, listSpan(list))
	return next
}

func checkSquare(t *testing.T, h impl.Hand, q impl.Square, train, day int) (impl.Hand, int) {
	t.Helper()
	text, _ := wantScan(q)
	want, code := wantInspect(h, text, train, day)
	asked := roomyHand(h)
	kept := wholeHand(asked)
	next, said := impl.InspectFrame(asked, q, train, day)
	if said != code || !sameHand(next, want) {
		t.Fatalf("InspectFrame(%s, %v, %d, %d) = %s, %d, want %s, %d", tellHand(h), q, train, day, tellHand(next), said, tellHand(want), code)
	}
	checkUntouched(t, asked, kept, next, textSpan(q.Dark))
	return next, said
}

func TestHandConstants(t *testing.T) {
	got := []int{impl.MaxOff, impl.MaxSeen, impl.CheckOk, impl.CheckRead, impl.CheckDay, impl.CheckTrain, impl.CheckOff, impl.CheckAgain}
	if want := []int{200, 300, 0, 1, 2, 3, 4, 5}; !slices.Equal(got, want) {
		t.Errorf("the constants are %v, want %v", got, want)
	}
}

func TestListsOfTicketsThatAreOff(t *testing.T) {
	for _, list := range [][]int{nil, {}, {1}, {999999999}, {1, 2}, {1, 999999999}, {999999998, 999999999}, {5, 7}, manyOff(199), manyOff(200)} {
		checkOff(t, list, true)
	}
	for _, list := range [][]int{
		{0}, {-1}, {1000000000}, {math.MinInt}, {math.MaxInt}, {0, 1}, {-1, 1}, {1, 1000000000}, {1, 1}, {7, 5}, {1, 2, 2}, {1, 3, 2}, {2, 1, 3}, {1, 2, 1}, {3, 2, 1},
		{999999999, 999999999}, {999999999, 1000000000}, {0, 0}, manyOff(201), manyOff(202), manyOff(5000), append(manyOff(200), 999999999),
	} {
		checkOff(t, list, false)
	}
}

func TestEachTicketThatIsOffIsLookedAt(t *testing.T) {
	for _, n := range []int{1, 2, 3, 199, 200} {
		for i := range n {
			for _, id := range []int{math.MinInt, -1, 0, 1000000000, math.MaxInt} {
				list := manyOff(n)
				list[i] = id
				checkOff(t, list, false)
			}
			if i > 0 {
				list := manyOff(n)
				list[i] = list[i-1]
				checkOff(t, list, false)
				list[i] = list[i-1] - 1
				checkOff(t, list, false)
				list[i] = list[i-1] + 1
				checkOff(t, list, true)
			}
		}
	}
}

func TestNumbersOfADeviceAtTheirBounds(t *testing.T) {
	for _, n := range append([]int{2, 80, 9998, 9999, 10000, 10001}, edgeNumbers...) {
		h := someHand()
		h.Device = n
		checkHandOk(t, h, within(n, 1, 9999))
		h.Seen = manySeen(n, 3)
		checkHandOk(t, h, within(n, 1, 9999))
		h = someHand()
		h.Issuer = n
		checkHandOk(t, h, within(n, 0, 9999))
		h = busyHand()
		h.Version = n
		checkHandOk(t, h, n >= 0)
	}
	for _, n := range []int{1, 9999} {
		checkHandStart(t, n, ticketParams, openOf(ticketParams, 7), n, true)
		checkHandStart(t, n, ticketParams, openOf(ticketParams, 7), 0, true)
	}
	checkHandOk(t, impl.Hand{}, false)
	checkHandOk(t, impl.Hand{Device: 1}, true)
}

func TestListsOfADevice(t *testing.T) {
	h := busyHand()
	for _, off := range [][]int{nil, {}, {1}, {999999999}, manyOff(200)} {
		h.Off = off
		checkHandOk(t, h, true)
	}
	for _, off := range [][]int{{0}, {1000000000}, {2, 1}, {3, 3}, manyOff(201)} {
		h.Off = off
		checkHandOk(t, h, false)
	}
	for _, n := range []int{0, 1, 2, 299, 300, 301, 302, 4000} {
		h = busyHand()
		h.Seen = manySeen(1, n)
		checkHandOk(t, h, n <= 300)
	}
}

func TestEachControlOfADeviceIsLookedAt(t *testing.T) {
	for _, n := range []int{1, 2, 10, 300} {
		for i := range n {
			for _, device := range []int{0, -1, 2, 9999, math.MaxInt, math.MinInt} {
				h := busyHand()
				h.Seen = manySeen(1, n)
				h.Seen[i].Device = device
				checkHandOk(t, h, false)
			}
			for _, no := range []int{0, -1, i, i + 2, n + 1, math.MaxInt, math.MinInt} {
				if no != i+1 {
					h := busyHand()
					h.Seen = manySeen(1, n)
					h.Seen[i].No = no
					checkHandOk(t, h, false)
				}
			}
			if i > 0 {
				h := busyHand()
				h.Seen = manySeen(1, n)
				h.Seen[i-1], h.Seen[i] = h.Seen[i], h.Seen[i-1]
				checkHandOk(t, h, false)
			}
		}
	}
	h := busyHand()
	slices.Reverse(h.Seen)
	checkHandOk(t, h, false)
	h = busyHand()
	h.Seen = h.Seen[1:]
	checkHandOk(t, h, false)
	h = busyHand()
	h.Seen = slices.Delete(h.Seen, 4, 5)
	checkHandOk(t, h, false)
	h = busyHand()
	h.Device = 2
	checkHandOk(t, h, false)
}

// What a control tells beside its device and number is not asked for.
func TestControlsOfAnyTicketAreRight(t *testing.T) {
	for _, n := range edgeNumbers {
		for _, c := range []impl.Control{{Ticket: n}, {Train: n}, {Day: n}, {Said: n}, {Ticket: n, Train: n, Day: n, Said: n}} {
			checkHandOk(t, handWith(nil, c, c), true)
		}
	}
}

// Whether its keys are right is not asked of a device, but at its start its
// params are.
func TestKeysOfADevice(t *testing.T) {
	text := issuedText(t, handTicket())
	open := openOf(ticketParams, ticketSecret)
	for _, p := range noGroups {
		checkHandStart(t, 1, p, open, ticketIssuer, false)
		checkHandStart(t, 1, p, 2, ticketIssuer, false)
		h := busyHand()
		h.Params = p
		checkHandOk(t, h, true)
		h = checkSays(t, h, text, 10, 14, 0, 1)
		checkUpdate(t, h, 5, []int{7}, true)
	}
	for _, p := range append([]impl.Params{ticketParams}, groups...) {
		for _, key := range append([]int{openOf(p, 1), openOf(p, 7), openOf(p, p.Q-1), p.P - 1, p.P, p.P + 1}, edgeNumbers...) {
			h := checkHandStart(t, 1, p, key, ticketIssuer, true)
			checkHandOk(t, h, true)
			if p != ticketParams || key != open {
				checkSays(t, h, text, 10, 14, 0, 1)
			}
		}
	}
	checkSays(t, checkHandStart(t, 1, ticketParams, open, ticketIssuer, true), text, 10, 14, 7, 0)
}

func TestDevicesBegin(t *testing.T) {
	open := openOf(ticketParams, ticketSecret)
	h := checkHandStart(t, 12, ticketParams, open, 80, true)
	if h.Device != 12 || h.Params != ticketParams || h.Open != open || h.Issuer != 80 || h.Version != 0 || len(h.Off) != 0 || len(h.Seen) != 0 {
		t.Errorf("HandStart = %s", tellHand(h))
	}
	checkHandOk(t, h, true)
	for _, n := range append([]int{9998, 9999, 10000}, edgeNumbers...) {
		checkHandStart(t, n, ticketParams, open, 80, within(n, 1, 9999))
		checkHandStart(t, 1, ticketParams, open, n, within(n, 0, 9999))
		checkHandStart(t, n, ticketParams, open, n, within(n, 1, 9999))
		checkHandStart(t, n, noGroups[5], open, n, false)
	}
}

func TestATicketIsTakenOnItsTrainsAndDays(t *testing.T) {
	text := issuedText(t, handTicket())
	for _, h := range []impl.Hand{someHand(), busyHand()} {
		for day := 11; day <= 18; day++ {
			for _, train := range []int{1, 9, 10, 11, 20, 9999} {
				code := 3
				if day < 13 || day > 16 {
					code = 2
				} else if train == 10 && day == 14 || train == 20 && day == 15 {
					code = 0
				}
				checkSays(t, h, text, train, day, 7, code)
			}
		}
	}
}

// Train 10 is ridden on the first and on the last day, and on none between.
func TestDaysAroundFirstAndLast(t *testing.T) {
	x := handTicket()
	x.Legs = []impl.Leg{{Train: 10, Day: 13, From: 1, To: 2}, {Train: 10, Day: 16, From: 2, To: 3}}
	text := issuedText(t, x)
	for day, code := range map[int]int{0: 2, 12: 2, 13: 0, 14: 3, 15: 3, 16: 0, 17: 2, 99999: 2} {
		checkSays(t, busyHand(), text, 10, day, 7, code)
	}
	x.First, x.Last, x.Legs = 16, 16, x.Legs[1:]
	text = issuedText(t, x)
	for day, code := range map[int]int{15: 2, 16: 0, 17: 2} {
		checkSays(t, busyHand(), text, 10, day, 7, code)
	}
}

func TestEachLegOfATicketIsLookedAt(t *testing.T) {
	x := impl.Ticket{Id: 9, Class: 1, First: 20, Last: 30}
	for i := range impl.MaxLegs {
		x.Legs = append(x.Legs, impl.Leg{Train: 100 + i, Day: 22 + i, From: 1 + i, To: 2 + i})
		text := issuedText(t, x)
		for train := 99; train <= 107; train++ {
			for day := 21; day <= 29; day++ {
				code := 3
				if train-100 == day-22 && within(train-100, 0, i) {
					code = 0
				}
				checkSays(t, busyHand(), text, train, day, 9, code)
			}
		}
	}
}

func TestTrainsAndDaysOfAControlAtTheirBounds(t *testing.T) {
	least, most := issuedText(t, leastTicket()), issuedText(t, mostTicket())
	for _, h := range []impl.Hand{someHand(), busyHand()} {
		checkSays(t, h, least, 1, 0, 1, 0)
		checkSays(t, h, most, 9999, 99999, 999999999, 0)
		checkSays(t, h, least, 9999, 0, 1, 3)
		checkSays(t, h, least, 1, 99999, 1, 2)
		checkSays(t, h, most, 1, 99999, 999999999, 3)
		checkSays(t, h, most, 9999, 0, 999999999, 2)
		for _, text := range []string{least, most, "", "no frame"} {
			for _, n := range append([]int{9998, 9999, 10000, 99998, 99999, 100000}, edgeNumbers...) {
				if !within(n, 1, 9999) {
					checkNoControl(t, h, text, n, 0)
					checkNoControl(t, h, text, n, 99999)
				}
				if !within(n, 0, 99999) {
					checkNoControl(t, h, text, 1, n)
					checkNoControl(t, h, text, 9999, n)
				}
				checkInspect(t, h, text, n, 0)
				checkInspect(t, h, text, 1, n)
				checkInspect(t, h, text, n, n)
			}
		}
	}
}

// A text that does not read is written down with no ticket.
func TestTextsThatDoNotRead(t *testing.T) {
	text := issuedText(t, handTicket())
	unsigned, _ := wantFrame(ticketIssuer, impl.Mark{R: 1, S: 1}, wantPlain(handTicket()))
	list := []string{
		"", "x", impl.FrameHead, text[1:], text[:len(text)-1], text + "x", text + text, wantPlain(handTicket()), unsigned, "\x00\xff", strings.Repeat("long ", 5000),
		signedFrame(ticketIssuer, "no ticket"), signedFrame(ticketIssuer, ""), signedFrame(ticketIssuer, wantPlain(handTicket())+"\n"), signedFrame(ticketIssuer, wantPlain(impl.Ticket{Id: 7})),
	}
	for _, h := range []impl.Hand{someHand(), busyHand(), handWith([]int{7}, impl.Control{Train: 10, Day: 14}, impl.Control{Ticket: 7, Train: 10, Day: 14})} {
		for _, s := range list {
			checkSays(t, h, s, 10, 14, 0, 1)
			checkSays(t, h, s, 20, 99, 0, 1)
		}
	}
	for i := range len(text) {
		b := []byte(text)
		b[i] ^= 1
		checkInspect(t, someHand(), string(b), 10, 14)
		checkInspect(t, someHand(), text[:i], 10, 14)
	}
	checkSays(t, someHand(), signedFrame(ticketIssuer, wantPlain(handTicket())), 10, 14, 7, 0)
}

func TestTicketsOfOtherIssuersAndKeys(t *testing.T) {
	x := handTicket()
	for _, issuer := range []int{0, 79, 80, 81, 9999} {
		text, _ := checkIssue(t, ticketParams, ticketSecret, issuer, x, []int{5, 9})
		for _, own := range []int{0, 79, 80, 81, 9999} {
			h := busyHand()
			h.Issuer = own
			if own == issuer {
				checkSays(t, h, text, 10, 14, 7, 0)
			} else {
				checkSays(t, h, text, 10, 14, 0, 1)
			}
		}
	}
	for secret := 1; secret <= 12; secret++ {
		text, _ := checkIssue(t, ticketParams, secret, ticketIssuer, x, []int{5, 9})
		if secret == ticketSecret {
			checkSays(t, busyHand(), text, 10, 14, 7, 0)
		} else {
			checkSays(t, busyHand(), text, 10, 14, 0, 1)
		}
		h := busyHand()
		h.Open = openOf(ticketParams, secret)
		checkSays(t, h, text, 10, 14, 7, 0)
	}
	for _, p := range groups {
		text, ok := checkIssue(t, p, 7, ticketIssuer, x, []int{5, 9, 11})
		h := checkHandStart(t, 3, p, openOf(p, 7), ticketIssuer, true)
		if ok {
			checkSays(t, h, text, 10, 14, 7, 0)
		}
		checkInspect(t, busyHand(), text, 10, 14)
	}
}

func TestTicketsThatAreOff(t *testing.T) {
	text := issuedText(t, handTicket())
	for _, off := range [][]int{{7}, {6, 7}, {7, 8}, {1, 7, 999999999}, {5, 7, 9}, append([]int{7}, manyOff(199)...)} {
		checkSays(t, handWith(off), text, 10, 14, 7, 4)
	}
	for _, off := range [][]int{nil, {}, {6}, {8}, {6, 8}, {1, 10, 14, 77, 999999999}, {70}, manyOff(200)} {
		checkSays(t, handWith(off), text, 10, 14, 7, 0)
	}
	for i, id := range manyOff(200) {
		x := handTicket()
		x.Id = id
		if i%20 == 0 || i >= 198 {
			checkSays(t, handWith(manyOff(200)), issuedText(t, x), 10, 14, id, 4)
			x.Id++
			checkSays(t, handWith(manyOff(200)), issuedText(t, x), 10, 14, id+1, 0)
		}
	}
	checkSays(t, handWith([]int{1}), issuedText(t, leastTicket()), 1, 0, 1, 4)
	checkSays(t, handWith([]int{999999999}), issuedText(t, mostTicket()), 9999, 99999, 999999999, 4)
}

func TestTicketsThatWereTaken(t *testing.T) {
	text := issuedText(t, handTicket())
	taken := impl.Control{Ticket: 7, Train: 10, Day: 14}
	other := impl.Control{Ticket: 8, Train: 10, Day: 14}
	for _, seen := range [][]impl.Control{{taken}, {taken, taken}, {other, taken}, {taken, other}, {other, taken, other, taken, other}, append(manySeen(1, 298), taken), append([]impl.Control{taken}, manySeen(1, 298)...)} {
		checkSays(t, handWith(nil, seen...), text, 10, 14, 7, 5)
		checkSays(t, handWith(nil, seen...), text, 20, 15, 7, 0)
	}
	for _, c := range []impl.Control{
		{Ticket: 8, Train: 10, Day: 14}, {Ticket: 0, Train: 10, Day: 14}, {Ticket: -7, Train: 10, Day: 14}, {Ticket: 7, Train: 11, Day: 14}, {Ticket: 7, Train: 20, Day: 14},
		{Ticket: 7, Train: 10, Day: 13}, {Ticket: 7, Train: 10, Day: 15}, {Ticket: 7, Train: 20, Day: 15}, {Ticket: 7, Train: 14, Day: 10}, {Ticket: 10, Train: 7, Day: 14}, {},
	} {
		checkSays(t, handWith(nil, c), text, 10, 14, 7, 0)
		checkSays(t, handWith(nil, c, c, c), text, 10, 14, 7, 0)
		checkSays(t, handWith(nil, c, taken, c), text, 10, 14, 7, 5)
	}
}

func TestTicketsThatWereSeenButNotTaken(t *testing.T) {
	text := issuedText(t, handTicket())
	for _, said := range append([]int{1, 2, 3, 4, 5, 6}, edgeNumbers...) {
		seen := impl.Control{Ticket: 7, Train: 10, Day: 14, Said: said}
		code := 0
		if said == 0 {
			code = 5
		}
		checkSays(t, handWith(nil, seen), text, 10, 14, 7, code)
		checkSays(t, handWith(nil, seen, seen), text, 10, 14, 7, code)
		seen.Said = 0
		checkSays(t, handWith(nil, impl.Control{Ticket: 7, Train: 10, Day: 14, Said: said}, seen), text, 10, 14, 7, 5)
	}
}

// Two tickets of one number are the same to a device.
func TestATicketIsKnownByItsNumber(t *testing.T) {
	x := handTicket()
	x.Name, x.Price = "Another", 5
	h := checkSays(t, someHand(), issuedText(t, handTicket()), 10, 14, 7, 0)
	checkSays(t, h, issuedText(t, x), 10, 14, 7, 5)
	x.Id = 8
	checkSays(t, h, issuedText(t, x), 10, 14, 8, 0)
}

// Any of five reasons, in all ways together: the first counts.
func TestTheFirstReasonCounts(t *testing.T) {
	good := issuedText(t, handTicket())
	for reasons := range 32 {
		text, train, day, ticket, code := good, 10, 14, 7, 0
		if reasons&1 != 0 {
			text, ticket = signedFrame(ticketIssuer, wantPlain(handTicket())+"x"), 0
		}
		if reasons&2 != 0 {
			day = 17
		}
		if reasons&4 != 0 {
			train = 30
		}
		var off []int
		if reasons&8 != 0 {
			off = []int{6, 7}
		}
		var seen []impl.Control
		if reasons&16 != 0 {
			seen = []impl.Control{{Ticket: 7, Train: train, Day: day}, {Ticket: 0, Train: train, Day: day}}
		}
		for bit := 4; bit >= 0; bit-- {
			if reasons>>bit&1 != 0 {
				code = bit + 1
			}
		}
		h := handWith(off, seen...)
		checkSays(t, h, text, train, day, ticket, code)
		checkNoControl(t, h, text, 0, day)
		checkNoControl(t, h, text, train, -1)
		h.Version = -1
		checkNoControl(t, h, text, train, day)
	}
}

// wrongHands are not HandOk, each by one fault of its own, but for the last.
func wrongHands() []impl.Hand {
	list := []impl.Hand{}
	for _, change := range []func(h *impl.Hand){
		func(h *impl.Hand) { h.Device, h.Seen = 0, manySeen(0, 2) }, func(h *impl.Hand) { h.Device, h.Seen = 10000, manySeen(10000, 2) }, func(h *impl.Hand) { h.Device = 2 },
		func(h *impl.Hand) { h.Issuer = -1 }, func(h *impl.Hand) { h.Issuer = 10000 }, func(h *impl.Hand) { h.Version = -1 },
		func(h *impl.Hand) { h.Off = []int{0} }, func(h *impl.Hand) { h.Off = []int{1000000000} }, func(h *impl.Hand) { h.Off = []int{9, 8} },
		func(h *impl.Hand) { h.Off = []int{8, 8} }, func(h *impl.Hand) { h.Off = manyOff(201) }, func(h *impl.Hand) { h.Seen = manySeen(1, 301) },
		func(h *impl.Hand) { h.Seen = manySeen(2, 3) }, func(h *impl.Hand) { h.Seen[1].No = 1 }, func(h *impl.Hand) { h.Seen = h.Seen[1:] }, func(h *impl.Hand) { slices.Reverse(h.Seen) },
		func(h *impl.Hand) { *h = impl.Hand{} },
	} {
		h := busyHand()
		change(&h)
		list = append(list, h)
	}
	return list
}

// What is not HandOk controls nothing and writes nothing down.
func TestDevicesThatAreNotRight(t *testing.T) {
	text := issuedText(t, handTicket())
	checkSays(t, busyHand(), text, 10, 14, 7, 0)
	for _, h := range wrongHands() {
		checkHandOk(t, h, false)
		for _, s := range []string{text, "", "no frame"} {
			checkNoControl(t, h, s, 10, 14)
			checkNoControl(t, h, s, 0, -1)
		}
		checkUpdate(t, h, 5, []int{1, 7}, false)
		checkUpdate(t, h, math.MaxInt, nil, false)
		checkUpdate(t, h, -1, []int{0}, false)
	}
}

func TestAListOfControlsThatIsFull(t *testing.T) {
	text := issuedText(t, handTicket())
	for _, s := range []string{text, "", "no frame"} {
		h := someHand()
		h.Seen = manySeen(1, 298)
		ticket, code := 7, 0
		if s != text {
			ticket, code = 0, 1
		}
		h = checkSays(t, h, s, 10, 14, ticket, code)
		h = checkSays(t, h, s, 20, 15, ticket, code)
		if len(h.Seen) != 300 || h.Seen[299].No != 300 {
			t.Fatalf("%s", tellHand(h))
		}
		checkHandOk(t, h, true)
		for _, train := range []int{10, 20, 30, 0, 10000} {
			for _, day := range []int{13, 14, 15, 16, 17, -1, 100000} {
				checkNoControl(t, h, s, train, day)
			}
		}
		checkHandOk(t, checkUpdate(t, h, 1, []int{7}, true), true)
	}
}

// A device whose list is full still tells what a ticket is.
func TestCheckOfAFullDevice(t *testing.T) {
	text := issuedText(t, handTicket())
	taken := impl.Control{Ticket: 7, Train: 10, Day: 14}
	for _, c := range []struct {
		h    impl.Hand
		code int
	}{
		{handWith(nil, manySeen(1, 300)...), 0}, {handWith([]int{7}, manySeen(1, 300)...), 4},
		{handWith(nil, append(manySeen(1, 299), taken)...), 5}, {handWith(nil, append([]impl.Control{taken}, manySeen(1, 299)...)...), 5},
		{handWith(nil, append(manySeen(1, 300), taken)...), 1},
	} {
		if said := impl.Check(c.h, text, 10, 14); said != c.code {
			t.Errorf("Check(%s) = %d, want %d", tellHand(c.h), said, c.code)
		}
		checkNoControl(t, c.h, text, 10, 14)
	}
}

func TestADeviceIsFilledUp(t *testing.T) {
	text := issuedText(t, handTicket())
	h := checkHandStart(t, 9, ticketParams, openOf(ticketParams, ticketSecret), ticketIssuer, true)
	for i := range 300 {
		code := 5
		if i == 0 {
			code = 0
		}
		h = checkSays(t, h, text, 10, 14, 7, code)
	}
	checkNoControl(t, h, text, 10, 14)
	checkNoControl(t, h, text, 20, 15)
}

func TestVersionsOfAList(t *testing.T) {
	h := busyHand()
	for _, version := range append([]int{3, 4, 5, 6}, edgeNumbers...) {
		next := checkUpdate(t, h, version, []int{5, 7}, version > 4)
		if version > 4 && (next.Version != version || !slices.Equal(next.Off, []int{5, 7})) || version <= 4 && !sameHand(next, h) {
			t.Errorf("version %d: %s", version, tellHand(next))
		}
	}
	for _, own := range []int{0, 1, 7, math.MaxInt - 1, math.MaxInt} {
		h.Version = own
		checkUpdate(t, h, own, []int{7}, false)
		checkUpdate(t, h, own-1, nil, false)
		checkUpdate(t, h, math.MinInt, nil, false)
		if own < math.MaxInt {
			checkUpdate(t, h, own+1, []int{7}, true)
			checkUpdate(t, h, math.MaxInt, nil, true)
		}
	}
}

func TestListsThatADeviceTakes(t *testing.T) {
	for _, h := range []impl.Hand{someHand(), busyHand(), handWith(manyOff(200), manySeen(1, 300)...)} {
		for _, off := range [][]int{nil, {}, {1}, {999999999}, {1, 999999999}, manyOff(199), manyOff(200)} {
			next := checkUpdate(t, h, h.Version+1, off, true)
			if next.Version != h.Version+1 || !slices.Equal(next.Off, off) || !slices.Equal(next.Seen, h.Seen) {
				t.Errorf("with %v: %s", off, tellHand(next))
			}
			checkHandOk(t, next, true)
			checkUpdate(t, h, h.Version, off, false)
		}
		for _, off := range [][]int{{0}, {-1}, {1000000000}, {7, 5}, {7, 7}, {1, 2, 2}, manyOff(201)} {
			if next := checkUpdate(t, h, h.Version+1, off, false); !sameHand(next, h) {
				t.Errorf("with %v: %s", off, tellHand(next))
			}
			checkUpdate(t, h, h.Version, off, false)
		}
	}
}

// The list that is newer counts, with what is no longer in it; what was seen
// ahead of it stays.
func TestATicketThatIsOffForAWhile(t *testing.T) {
	text := issuedText(t, handTicket())
	h := checkSays(t, someHand(), text, 10, 14, 7, 0)
	h = checkUpdate(t, h, 3, []int{6, 7}, true)
	h = checkSays(t, h, text, 10, 14, 7, 4)
	h = checkSays(t, h, text, 20, 15, 7, 4)
	h = checkUpdate(t, h, 3, nil, false)
	h = checkUpdate(t, h, 2, nil, false)
	h = checkSays(t, h, text, 20, 15, 7, 4)
	h = checkUpdate(t, h, 9, []int{6}, true)
	h = checkSays(t, h, text, 10, 14, 7, 5)
	h = checkSays(t, h, text, 20, 15, 7, 0)
	h = checkSays(t, h, text, 20, 15, 7, 5)
	want := []int{0, 4, 4, 4, 5, 0, 5}
	for i, c := range h.Seen {
		if c.Device != 1 || c.No != i+1 || c.Ticket != 7 || c.Said != want[i] {
			t.Errorf("control %d is %+v", i, c)
		}
	}
	if len(h.Seen) != len(want) || h.Version != 9 {
		t.Errorf("%s", tellHand(h))
	}
}

func TestASquareIsReadFromAnySide(t *testing.T) {
	for _, x := range []impl.Ticket{handTicket(), leastTicket(), mostTicket()} {
		text := issuedText(t, x)
		q, ok := wantPaint(text)
		if !ok {
			t.Fatalf("%+v is not painted", x)
		}
		for n := range 4 {
			held := wantTurn(q, n)
			for _, h := range []impl.Hand{someHand(), busyHand(), handWith([]int{x.Id}), handWith(nil, impl.Control{Ticket: x.Id, Train: x.Legs[0].Train, Day: x.Legs[0].Day}), handWith(nil, manySeen(1, 299)...), handWith(nil, manySeen(1, 300)...)} {
				for _, day := range []int{x.Legs[0].Day, x.Last + 1, 0, -1} {
					for _, train := range []int{x.Legs[0].Train, 1, 0} {
						next, said := checkSquare(t, h, held, train, day)
						if same, code := checkInspect(t, h, text, train, day); said != code || !sameHand(next, same) {
							t.Errorf("turned by %d it says %d, %s, its text %d, %s", n, said, tellHand(next), code, tellHand(same))
						}
					}
				}
			}
		}
	}
}

// A square that is not fine is written down as a text that does not read.
func TestSquaresThatAreNotFine(t *testing.T) {
	text := issuedText(t, handTicket())
	q, _ := wantPaint(text)
	wide := squareWith(q.Size+2, bodySigns(len(text), text, impl.CheckSum(text)))
	list := []impl.Square{
		{}, {Size: q.Size}, {Size: q.Size + 2, Dark: q.Dark}, {Size: 9, Dark: strings.Repeat("0", 81)}, {Size: q.Size, Dark: q.Dark + "0"}, {Size: -1, Dark: q.Dark}, {Size: q.Size, Dark: "2" + q.Dark[1:]},
		flipped(q, 0), flipped(q, 24), flipped(q, 26), flipped(q, 40), flipped(q, 60), flipped(q, 41+8*len(text)), wide,
		squareWith(q.Size, bodySigns(len(text), text, impl.CheckSum(text)+1)), squareWith(9, bodySigns(mostPainted+1, "", 0)), squareWith(9, bodySigns(300, "", 0)),
	}
	codes := [5]int{}
	for _, q := range list {
		codes[checkScan(t, q)]++
		for _, h := range []impl.Hand{someHand(), busyHand(), handWith([]int{7}, impl.Control{Ticket: 7, Train: 10, Day: 14})} {
			next, said := checkSquare(t, h, q, 10, 14)
			last := impl.Control{Device: 1, No: len(h.Seen) + 1, Train: 10, Day: 14, Said: 1}
			if said != 1 || len(next.Seen) != len(h.Seen)+1 || next.Seen[len(h.Seen)] != last {
				t.Errorf("InspectFrame(%v) = %s, %d", q, tellHand(next), said)
			}
		}
	}
	if codes[0] != 0 || codes[1] == 0 || codes[2] == 0 || codes[3] == 0 || codes[4] == 0 {
		t.Errorf("squares by what Scan says: %v", codes)
	}
}

func TestSquaresWhoseTextDoesNotRead(t *testing.T) {
	text := issuedText(t, handTicket())
	other, _ := checkIssue(t, ticketParams, ticketSecret+1, ticketIssuer, handTicket(), []int{5, 9})
	for _, s := range []string{"", "x", "no frame", text[1:], text + "x", other, signedFrame(ticketIssuer, "no ticket"), signedFrame(ticketIssuer+1, wantPlain(handTicket()))} {
		q, _ := wantPaint(s)
		for n := range 4 {
			next, said := checkSquare(t, busyHand(), wantTurn(q, n), 10, 14)
			if said != 1 || len(next.Seen) != 11 || next.Seen[10] != (impl.Control{Device: 1, No: 11, Train: 10, Day: 14, Said: 1}) {
				t.Errorf("the square of %q: %s, %d", s, tellHand(next), said)
			}
		}
	}
}

// A diary tells by the promise alone whether a ticket is taken.
type handDiary struct {
	off   []int
	taken map[[3]int]int
}

func (d *handDiary) takes(x impl.Ticket, reads bool, train, day int) bool {
	goes := slices.ContainsFunc(x.Legs, func(l impl.Leg) bool { return l.Train == train && l.Day == day })
	at := [3]int{x.Id, train, day}
	if !reads || day < x.First || day > x.Last || !goes || slices.Contains(d.off, x.Id) || d.taken[at] > 0 {
		return false
	}
	d.taken[at]++
	return true
}

func fewTickets(r *rand.Rand) []impl.Ticket {
	list := []impl.Ticket{}
	for id := 1; id <= 6; id++ {
		x := impl.Ticket{Id: id, Class: 2, First: r.Intn(3)}
		x.Last = x.First + r.Intn(3)
		for range 1 + r.Intn(3) {
			x.Legs = append(x.Legs, impl.Leg{Train: 1 + r.Intn(3), Day: x.First + r.Intn(x.Last-x.First+1), From: 1, To: 2})
		}
		list = append(list, x)
	}
	return list
}

func anyOff(r *rand.Rand) []int {
	list := []int{}
	for id := 1; id <= 6; id++ {
		if r.Intn(4) == 0 {
			list = append(list, id)
		}
	}
	if r.Intn(5) == 0 {
		list = append(list, r.Intn(8)-1)
	}
	return list
}

func TestAnySessionOfADevice(t *testing.T) {
	r := rand.New(rand.NewSource(31))
	said := [6]int{}
	updates := [2]int{}
	for range 12 {
		tickets := fewTickets(r)
		h := checkHandStart(t, 1+r.Intn(9999), ticketParams, openOf(ticketParams, ticketSecret), ticketIssuer, true)
		d := handDiary{taken: map[[3]int]int{}}
		for range 120 {
			if r.Intn(6) == 0 {
				off, version := anyOff(r), h.Version+r.Intn(4)-1
				will := version > h.Version && rightOff(off)
				h = checkUpdate(t, h, version, off, will)
				if will {
					d.off = off
					updates[1]++
				} else {
					updates[0]++
				}
				continue
			}
			x, secret := tickets[r.Intn(len(tickets))], ticketSecret
			if r.Intn(8) == 0 {
				secret++
			}
			text, _ := checkIssue(t, ticketParams, secret, ticketIssuer, x, []int{5, 9, 11})
			train, day := 1+r.Intn(3), r.Intn(5)
			before, code := len(h.Seen), 0
			if r.Intn(2) == 0 {
				h, code = checkInspect(t, h, text, train, day)
			} else {
				q, _ := wantPaint(text)
				h, code = checkSquare(t, h, wantTurn(q, r.Intn(4)), train, day)
			}
			if took := code == 0; took != d.takes(x, secret == ticketSecret, train, day) || len(h.Seen) != before+1 {
				t.Fatalf("%+v on train %d on day %d: %d, %s", x, train, day, code, tellHand(h))
			}
			said[code]++
		}
		checkHandOk(t, h, true)
	}
	if slices.Min(said[:]) < 10 || slices.Min(updates[:]) < 20 {
		t.Errorf("what was said: %v, updates: %v", said, updates)
	}
}

// No two lists of an answer share memory, nor does one with an argument that
// was handed in twice.
func TestListsOfADeviceAreApart(t *testing.T) {
	room := manyOff(200)
	seen := manySeen(1, 300)
	for _, n := range []int{0, 1, 2, 199, 200} {
		for _, m := range []int{0, 1, 298, 299, 300} {
			h := someHand()
			h.Off, h.Seen = room[:n], seen[:m]
			updated, _ := impl.HandUpdate(h, 1, h.Off)
			refused, _ := impl.HandUpdate(h, 0, h.Off)
			inspected, _ := impl.Inspect(h, "", 10, 14)
			framed, _ := impl.InspectFrame(h, impl.Square{}, 10, 14)
			again, _ := impl.Inspect(h, "", 0, 14)
			for _, next := range []impl.Hand{updated, refused, inspected, framed, again} {
				checkNew(t, handSpans(next), []span{listSpan(room), listSpan(seen)})
				checkApart(t, handSpans(next))
				clear(next.Off[:cap(next.Off)])
				clear(next.Seen[:cap(next.Seen)])
			}
		}
	}
	if !slices.Equal(room, manyOff(200)) || !slices.Equal(seen, manySeen(1, 300)) {
		t.Error("an argument was written into")
	}
}

func TestDevicesThatWereToldStayAsTheyWere(t *testing.T) {
	r := rand.New(rand.NewSource(32))
	text := issuedText(t, handTicket())
	list, kept := []impl.Hand{busyHand()}, []impl.Hand{busyHand()}
	for range 200 {
		from := list[r.Intn(len(list))]
		var next impl.Hand
		switch r.Intn(3) {
		case 0:
			next, _ = impl.Inspect(from, []string{text, ""}[r.Intn(2)], 10, 14+r.Intn(2))
		case 1:
			next, _ = impl.HandUpdate(from, from.Version+r.Intn(2), anyOff(r))
		default:
			next, _ = impl.InspectFrame(from, impl.Square{}, 10, 14)
		}
		list, kept = append(list, next), append(kept, copiedHand(next))
	}
	for i := range list {
		if !sameHand(list[i], kept[i]) {
			t.Fatalf("device %d was %s and is %s", i, tellHand(kept[i]), tellHand(list[i]))
		}
	}
}

// Calls at the same time have nothing to do with each other.
func TestDevicesAtTheSameTime(t *testing.T) {
	h := roomyHand(busyHand())
	text := issuedText(t, handTicket())
	wants := []impl.Hand{}
	for day := range 20 {
		want, _ := wantInspect(h, text, 10, day)
		wants = append(wants, want)
	}
	var group sync.WaitGroup
	wrong := make([]int, 8)
	for i := range wrong {
		group.Go(func() {
			for j := range 100 {
				if next, _ := impl.Inspect(h, text, 10, j%20); !sameHand(next, wants[j%20]) {
					wrong[i]++
				}
				if next, ok := impl.HandUpdate(h, 5+i, []int{1 + j}); !ok || next.Version != 5+i || !slices.Equal(next.Off, []int{1 + j}) {
					wrong[i]++
				}
			}
		})
	}
	group.Wait()
	if slices.Max(wrong) > 0 {
		t.Errorf("wrong answers: %v", wrong)
	}
}

func TestDevicesAnswerAtAnyArguments(t *testing.T) {
	text := issuedText(t, handTicket())
	for _, a := range edgeNumbers {
		for _, b := range edgeNumbers {
			p := impl.Params{P: a, Q: b, G: a}
			checkOff(t, []int{a, b}, rightOff([]int{a, b}))
			checkHandStart(t, a, p, b, a, false)
			checkHandStart(t, a, ticketParams, a, b, within(a, 1, 9999) && within(b, 0, 9999))
			c := impl.Control{Device: a, No: 1, Ticket: b, Train: a, Day: b, Said: a}
			for _, h := range []impl.Hand{
				{Device: a, Params: p, Open: b, Issuer: b, Version: a, Off: []int{b}, Seen: []impl.Control{c}},
				{Device: 1, Params: ticketParams, Open: a, Issuer: ticketIssuer, Version: b, Off: []int{a, b}},
				{Device: a, Params: ticketParams, Open: openOf(ticketParams, ticketSecret), Issuer: ticketIssuer, Version: 1, Seen: []impl.Control{c, {Device: a, No: b}}},
			} {
				checkHandOk(t, h, rightHand(h))
				checkInspect(t, h, text, a, b)
				checkInspect(t, h, text, 10, 14)
				_, will := wantUpdate(h, a, []int{b})
				checkUpdate(t, h, a, []int{b}, will)
				checkSquare(t, h, impl.Square{Size: a, Dark: text}, a, b)
			}
		}
	}
	for _, s := range append(signTexts(), plainTexts()...) {
		checkInspect(t, busyHand(), s, 10, 14)
		checkSquare(t, busyHand(), impl.Square{Size: 9, Dark: s}, 10, 14)
	}
	great := someHand()
	great.Off, great.Seen = make([]int, 100000), make([]impl.Control, 100000)
	checkHandOk(t, great, false)
	checkNoControl(t, great, text, 10, 14)
	checkUpdate(t, great, 1, nil, false)
}
