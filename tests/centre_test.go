package tests

import (
	"fmt"
	"math"
	"math/rand"
	"slices"
	"sync"
	"testing"

	"loop.example/g00211/impl"
)

const mostControls = 600

func numbered(device, no int) impl.Control {
	return impl.Control{Device: device, No: no, Ticket: 100 + device, Train: 10, Day: 14, Said: impl.CheckOff}
}

func takenOn(device, no, ticket, train, day int) impl.Control {
	return impl.Control{Device: device, No: no, Ticket: ticket, Train: train, Day: day}
}

func numberedAnew(x impl.Control, no int) impl.Control {
	x.No = no
	return x
}

// manyControls has devices of seven controls each, with a number left out
// between any two, so that there is room around each.
func manyControls(n int) []impl.Control {
	list := make([]impl.Control, n)
	for i := range list {
		list[i] = impl.Control{Device: 2 + 2*(i/7), No: 2 + 2*(i%7), Ticket: 1000 + i, Train: 1 + i%30, Day: i % 9, Said: i % 6}
	}
	return list
}

func busyCentre() impl.Centre {
	return impl.Centre{Version: 4, Off: manyOff(20), Controls: manyControls(30)}
}

func centreOf(list ...impl.Control) impl.Centre {
	return impl.Centre{Controls: list}
}

func copiedCentre(c impl.Centre) impl.Centre {
	c.Off, c.Controls = slices.Clone(c.Off), slices.Clone(c.Controls)
	return c
}

func roomyCentre(c impl.Centre) impl.Centre {
	c.Off, c.Controls = withRoom(c.Off, 7), withRoom(c.Controls, impl.Control{Ticket: 7})
	return c
}

func wholeCentre(c impl.Centre) impl.Centre {
	c.Off, c.Controls = slices.Clone(c.Off[:cap(c.Off)]), slices.Clone(c.Controls[:cap(c.Controls)])
	return c
}

func sameCentre(a, b impl.Centre) bool {
	return a.Version == b.Version && slices.Equal(a.Off, b.Off) && slices.Equal(a.Controls, b.Controls)
}

func centreSpans(c impl.Centre) []span {
	return []span{listSpan(c.Off), listSpan(c.Controls)}
}

func tellControls(list []impl.Control) string {
	return fmt.Sprintf("%d controls %.300v", len(list), fmt.Sprint(list))
}

func tellCentre(c impl.Centre) string {
	return fmt.Sprintf("{version %d, %d off %.200v, %s}", c.Version, len(c.Off), fmt.Sprint(c.Off), tellControls(c.Controls))
}

func aheadOf(a, b impl.Control) bool {
	return a.Device < b.Device || a.Device == b.Device && a.No < b.No
}

func rightCentre(c impl.Centre) bool {
	for i, x := range c.Controls {
		if i > 0 && !aheadOf(c.Controls[i-1], x) {
			return false
		}
	}
	return c.Version >= 0 && rightOff(c.Off) && len(c.Controls) <= mostControls
}

func wantRevoke(c impl.Centre, id int) (impl.Centre, bool) {
	off := append(slices.Clone(c.Off), id)
	slices.Sort(off)
	if !rightCentre(c) || slices.Contains(c.Off, id) || !rightOff(off) {
		return copiedCentre(c), false
	}
	return impl.Centre{Version: c.Version + 1, Off: off, Controls: slices.Clone(c.Controls)}, true
}

func wantDeliver(c impl.Centre, list []impl.Control) impl.Centre {
	c = copiedCentre(c)
	if !rightCentre(c) {
		return c
	}
	for _, x := range list {
		there := slices.ContainsFunc(c.Controls, func(y impl.Control) bool { return y.Device == x.Device && y.No == x.No })
		if there || len(c.Controls) == mostControls {
			continue
		}
		place := 0
		for place < len(c.Controls) && aheadOf(c.Controls[place], x) {
			place++
		}
		c.Controls = slices.Insert(c.Controls, place, x)
	}
	return c
}

func wantMerge(a, b impl.Centre) impl.Centre {
	if !rightCentre(a) || !rightCentre(b) {
		return copiedCentre(a)
	}
	return wantDeliver(a, b.Controls)
}

func wantPick(list []impl.Control, picks []int) []impl.Control {
	picked := []impl.Control{}
	for _, place := range picks {
		for i, x := range list {
			if i == place {
				picked = append(picked, x)
			}
		}
	}
	return picked
}

func wantDoubles(c impl.Centre) []int {
	tickets := map[int]int{}
	for i, x := range c.Controls {
		for _, y := range c.Controls[:i] {
			alike := x.Ticket == y.Ticket && x.Train == y.Train && x.Day == y.Day
			if alike && x.Device != y.Device && x.Said == 0 && y.Said == 0 && x.Ticket >= 1 {
				tickets[x.Ticket]++
			}
		}
	}
	list := []int{}
	for ticket := range tickets {
		list = append(list, ticket)
	}
	slices.Sort(list)
	return list
}

func wantMissing(c impl.Centre, device int) []int {
	list := []int{}
	for no := 1; no <= 1000; no++ {
		further, has := false, false
		for _, x := range c.Controls {
			further = further || x.Device == device && x.No > no
			has = has || x.Device == device && x.No == no
		}
		if further && !has {
			list = append(list, no)
		}
	}
	return list
}

// checkCentreKept asks that nothing was written into a centre that was handed
// in, and that what was answered has no memory of it.
func checkCentreKept(t *testing.T, asked, kept impl.Centre, answer ...span) {
	t.Helper()
	if !sameCentre(wholeCentre(asked), kept) {
		t.Fatalf("%s was written into: %s", tellCentre(kept), tellCentre(wholeCentre(asked)))
	}
	checkNew(t, answer, centreSpans(asked))
	checkApart(t, answer)
}

func checkCentre(t *testing.T, c impl.Centre, want bool) {
	t.Helper()
	if right := rightCentre(c); right != want {
		t.Fatalf("the test itself takes %s for right: %t", tellCentre(c), right)
	}
	asked := roomyCentre(c)
	kept := wholeCentre(asked)
	if got := impl.CentreOk(asked); got != want {
		t.Errorf("CentreOk(%s) = %t", tellCentre(c), got)
	}
	checkCentreKept(t, asked, kept)
}

func checkRevoke(t *testing.T, c impl.Centre, id int, want bool) impl.Centre {
	t.Helper()
	will, right := wantRevoke(c, id)
	if right != want {
		t.Fatalf("the test itself takes %d off %s: %t", id, tellCentre(c), right)
	}
	asked := roomyCentre(c)
	kept := wholeCentre(asked)
	next, ok := impl.Revoke(asked, id)
	if ok != want || !sameCentre(next, will) {
		t.Fatalf("Revoke(%s, %d) = %s, %t, want %s, %t", tellCentre(c), id, tellCentre(next), ok, tellCentre(will), want)
	}
	checkCentreKept(t, asked, kept, centreSpans(next)...)
	return next
}

func checkDeliver(t *testing.T, c impl.Centre, list ...impl.Control) impl.Centre {
	t.Helper()
	will := wantDeliver(c, list)
	asked, came := roomyCentre(c), withRoom(list, impl.Control{Ticket: 7})
	kept, keptList := wholeCentre(asked), slices.Clone(came[:cap(came)])
	next := impl.Deliver(asked, came)
	if !sameCentre(next, will) {
		t.Fatalf("Deliver(%s, %s) = %s, want %s", tellCentre(c), tellControls(list), tellCentre(next), tellCentre(will))
	}
	if !slices.Equal(came[:cap(came)], keptList) {
		t.Fatalf("Deliver wrote into %s", tellControls(list))
	}
	checkNew(t, centreSpans(next), []span{listSpan(came)})
	checkCentreKept(t, asked, kept, centreSpans(next)...)
	return next
}

// checkHas asks for just these controls behind a delivery.
func checkHas(t *testing.T, c impl.Centre, want ...impl.Control) {
	t.Helper()
	if !slices.Equal(c.Controls, want) {
		t.Fatalf("there are %s, want %s", tellControls(c.Controls), tellControls(want))
	}
}

func checkPick(t *testing.T, list []impl.Control, picks ...int) []impl.Control {
	t.Helper()
	want := wantPick(list, picks)
	asked, places := withRoom(list, impl.Control{Ticket: 7}), withRoom(picks, 0)
	kept, keptPlaces := slices.Clone(asked[:cap(asked)]), slices.Clone(places[:cap(places)])
	got := impl.Pick(asked, places)
	if !slices.Equal(got, want) {
		t.Fatalf("Pick(%s, %v) = %s, want %s", tellControls(list), picks, tellControls(got), tellControls(want))
	}
	if !slices.Equal(asked[:cap(asked)], kept) || !slices.Equal(places[:cap(places)], keptPlaces) {
		t.Fatalf("Pick wrote into %s or %v", tellControls(list), picks)
	}
	checkNew(t, []span{listSpan(got)}, []span{listSpan(asked), listSpan(places)})
	return got
}

func checkMerge(t *testing.T, a, b impl.Centre) impl.Centre {
	t.Helper()
	want := wantMerge(a, b)
	askedA, askedB := roomyCentre(a), roomyCentre(b)
	keptA, keptB := wholeCentre(askedA), wholeCentre(askedB)
	next := impl.Merge(askedA, askedB)
	if !sameCentre(next, want) {
		t.Fatalf("Merge(%s, %s) = %s, want %s", tellCentre(a), tellCentre(b), tellCentre(next), tellCentre(want))
	}
	checkCentreKept(t, askedA, keptA, centreSpans(next)...)
	checkCentreKept(t, askedB, keptB, centreSpans(next)...)
	return next
}

func checkDoubles(t *testing.T, c impl.Centre, want ...int) {
	t.Helper()
	if right := wantDoubles(c); !slices.Equal(right, want) {
		t.Fatalf("the test itself takes %v for the doubles of %s, not %v", right, tellCentre(c), want)
	}
	asked := roomyCentre(c)
	kept := wholeCentre(asked)
	got := impl.Doubles(asked)
	if !slices.Equal(got, want) {
		t.Errorf("Doubles(%s) = %v, want %v", tellCentre(c), got, want)
	}
	checkCentreKept(t, asked, kept, listSpan(got))
}

func checkMissing(t *testing.T, c impl.Centre, device int, want ...int) {
	t.Helper()
	if right := wantMissing(c, device); !slices.Equal(right, want) {
		t.Fatalf("the test itself takes %.300v for what is missing of %d in %s, not %.300v", fmt.Sprint(right), device, tellCentre(c), fmt.Sprint(want))
	}
	asked := roomyCentre(c)
	kept := wholeCentre(asked)
	got := impl.Missing(asked, device)
	if !slices.Equal(got, want) {
		t.Errorf("Missing(%s, %d) = %.300v, want %.300v", tellCentre(c), device, fmt.Sprint(got), fmt.Sprint(want))
	}
	checkCentreKept(t, asked, kept, listSpan(got))
}

func TestCentreConstants(t *testing.T) {
	if impl.MaxControls != 600 {
		t.Errorf("MaxControls is %d", impl.MaxControls)
	}
}

func TestVersionsOfACentre(t *testing.T) {
	for _, version := range []int{0, 1, 2, 1000000000, math.MaxInt - 1, math.MaxInt} {
		c := busyCentre()
		c.Version = version
		checkCentre(t, c, true)
		checkCentre(t, impl.Centre{Version: version}, true)
	}
	for _, version := range []int{math.MinInt, math.MinInt + 1, -1000000000, -2, -1} {
		c := busyCentre()
		c.Version = version
		checkCentre(t, c, false)
		checkCentre(t, impl.Centre{Version: version}, false)
	}
}

func wrongOffs() [][]int {
	return [][]int{{0}, {-1}, {1000000000}, {math.MinInt}, {math.MaxInt}, {5, 5}, {7, 5}, {1, 3, 2}, manyOff(201)}
}

func TestListsOfACentre(t *testing.T) {
	for _, off := range [][]int{nil, {}, {1}, {999999999}, {1, 999999999}, manyOff(199), manyOff(200)} {
		for _, n := range []int{0, 1, 2, 30, 599, 600} {
			checkCentre(t, impl.Centre{Off: off, Controls: manyControls(n)}, true)
		}
	}
	for _, off := range wrongOffs() {
		checkCentre(t, impl.Centre{Off: off}, false)
		checkCentre(t, impl.Centre{Version: 1, Off: off, Controls: manyControls(30)}, false)
	}
	for _, n := range []int{601, 602, 1200, 5000} {
		checkCentre(t, impl.Centre{Controls: manyControls(n)}, false)
	}
}

func TestControlsOfACentreAscend(t *testing.T) {
	for _, list := range [][]impl.Control{
		{numbered(1, 1)}, {numbered(0, 0)}, {numbered(-1, -1)}, {numbered(math.MinInt, math.MinInt)}, {numbered(math.MaxInt, math.MaxInt)},
		{numbered(1, 1), numbered(1, 2)}, {numbered(1, 2), numbered(2, 1)}, {numbered(1, 1), numbered(2, 1)}, {numbered(1, -1), numbered(1, 0)}, {numbered(-1, 5), numbered(0, 1)},
		{numbered(math.MinInt, math.MaxInt), numbered(math.MaxInt, math.MinInt)}, {numbered(1, math.MinInt), numbered(1, math.MaxInt)},
		{numbered(math.MinInt, 1), numbered(1, 1), numbered(math.MaxInt, 1)}, {numbered(1, 900), numbered(1, 999999), numbered(10000, 1)},
	} {
		checkCentre(t, centreOf(list...), true)
		backwards := slices.Clone(list)
		slices.Reverse(backwards)
		checkCentre(t, centreOf(backwards...), len(list) == 1)
	}
	for _, list := range [][]impl.Control{
		{numbered(1, 1), numbered(1, 1)}, {numbered(1, 1), takenOn(1, 1, 5, 6, 7)}, {numbered(1, 1), numbered(2, 1), numbered(1, 2)}, {numbered(1, 1), numbered(1, 3), numbered(1, 2)},
		{numbered(1, 1), numbered(2, 1), numbered(2, 1)}, {numbered(0, 0), numbered(0, 0)}, {numbered(math.MaxInt, math.MaxInt), numbered(math.MaxInt, math.MaxInt)},
		{numbered(math.MinInt, math.MinInt), numbered(math.MinInt, math.MinInt)}, {numbered(2, 1), numbered(1, 2)},
	} {
		checkCentre(t, centreOf(list...), false)
	}
}

func TestEachControlOfACentreIsLookedAt(t *testing.T) {
	for _, n := range []int{2, 3, 30, 600} {
		for i := 1; i < n; i++ {
			list := manyControls(n)
			list[i].Device, list[i].No = list[i-1].Device, list[i-1].No
			checkCentre(t, centreOf(list...), false)
			list = manyControls(n)
			list[i-1], list[i] = list[i], list[i-1]
			checkCentre(t, centreOf(list...), false)
			list = manyControls(n)
			list[i].No--
			checkCentre(t, centreOf(list...), true)
		}
	}
}

// What else a control says is not asked.
func TestControlsOfACentreSayAnything(t *testing.T) {
	for _, n := range edgeNumbers {
		c := centreOf(impl.Control{Device: 1, No: 1, Ticket: n, Train: n, Day: n, Said: n}, impl.Control{Device: 1, No: 2})
		checkCentre(t, c, true)
		checkHas(t, checkDeliver(t, impl.Centre{}, c.Controls...), c.Controls...)
	}
}

func TestNumbersAreTakenOff(t *testing.T) {
	for _, one := range []struct {
		off  []int
		id   int
		want []int
	}{
		{nil, 1, []int{1}},
		{nil, 999999999, []int{999999999}},
		{[]int{5}, 1, []int{1, 5}},
		{[]int{5}, 4, []int{4, 5}},
		{[]int{5}, 6, []int{5, 6}},
		{[]int{5}, 999999999, []int{5, 999999999}},
		{[]int{5, 9}, 7, []int{5, 7, 9}},
		{[]int{1, 999999999}, 2, []int{1, 2, 999999999}},
		{[]int{1, 999999999}, 999999998, []int{1, 999999998, 999999999}},
	} {
		for _, version := range []int{0, 1, 7, math.MaxInt - 1} {
			c := impl.Centre{Version: version, Off: one.off, Controls: manyControls(5)}
			next := checkRevoke(t, c, one.id, true)
			if next.Version != version+1 || !slices.Equal(next.Off, one.want) || !slices.Equal(next.Controls, c.Controls) {
				t.Errorf("Revoke(%s, %d) = %s", tellCentre(c), one.id, tellCentre(next))
			}
			checkCentre(t, next, true)
			checkRevoke(t, next, one.id, false)
		}
	}
}

// Each number that is there, and each gap, of a long list.
func TestNumbersAreTakenOffAtAnyPlace(t *testing.T) {
	for _, n := range []int{1, 2, 20, 199} {
		c := impl.Centre{Version: 3, Off: manyOff(n), Controls: manyControls(2)}
		for i, id := range c.Off {
			checkRevoke(t, c, id, false)
			if next := checkRevoke(t, c, id-1, true); next.Off[i] != id-1 {
				t.Errorf("%d does not stand at %d in %v", id-1, i, next.Off)
			}
			if next := checkRevoke(t, c, id+1, true); next.Off[i+1] != id+1 {
				t.Errorf("%d does not stand at %d in %v", id+1, i+1, next.Off)
			}
		}
	}
}

func TestNumbersThatAreNotTakenOff(t *testing.T) {
	for _, c := range []impl.Centre{{}, busyCentre(), {Version: math.MaxInt, Off: []int{7}}} {
		for _, id := range []int{math.MinInt, -1000000000, -1, 0, 1000000000, 1000000001, math.MaxInt} {
			checkRevoke(t, c, id, false)
		}
	}
}

func TestAListOfNumbersThatAreOffIsFilledUp(t *testing.T) {
	c := impl.Centre{Off: manyOff(199)}
	full := checkRevoke(t, c, 1, true)
	if len(full.Off) != mostOff || full.Version != 1 {
		t.Fatalf("behind the last there is %s", tellCentre(full))
	}
	for _, id := range []int{1, 2, 2000, 2001, 2003, 5000, 999999999, 0, 1000000000} {
		checkRevoke(t, full, id, false)
	}
	checkRevoke(t, impl.Centre{Version: 9, Off: manyOff(200)}, 1, false)
	c = impl.Centre{}
	for i := range 210 {
		c = checkRevoke(t, c, 1000-3*i, i < 200)
	}
	if c.Version != 200 {
		t.Errorf("200 numbers make version %d", c.Version)
	}
}

// The chapter names no greatest version, so one more wraps round.
func TestTheGreatestVersion(t *testing.T) {
	next := checkRevoke(t, impl.Centre{Version: math.MaxInt}, 5, true)
	if next.Version != math.MinInt {
		t.Errorf("behind the greatest version comes %d", next.Version)
	}
}

func wrongCentres() []impl.Centre {
	list := []impl.Centre{}
	for _, off := range wrongOffs() {
		list = append(list, impl.Centre{Version: 2, Off: off, Controls: manyControls(3)})
	}
	for _, version := range []int{math.MinInt, -1} {
		c := busyCentre()
		c.Version = version
		list = append(list, c)
	}
	for _, controls := range [][]impl.Control{{numbered(2, 1), numbered(1, 1)}, {numbered(1, 2), numbered(1, 1)}, {numbered(1, 1), numbered(1, 1)}, manyControls(601)} {
		list = append(list, impl.Centre{Version: 3, Off: []int{5, 9}, Controls: controls})
	}
	return list
}

func TestCentresThatAreNotRight(t *testing.T) {
	for _, c := range wrongCentres() {
		checkCentre(t, c, false)
		for _, id := range []int{0, 1, 5, 6, 7, 2001, 999999999, 1000000000} {
			checkRevoke(t, c, id, false)
		}
		for _, list := range [][]impl.Control{nil, {numbered(1, 1)}, {numbered(5, 5)}, manyControls(40)} {
			if next := checkDeliver(t, c, list...); !sameCentre(next, c) {
				t.Fatalf("a delivery makes %s of %s", tellCentre(next), tellCentre(c))
			}
		}
		right := busyCentre()
		right.Controls = append(right.Controls, numbered(9000, 1))
		if next := checkMerge(t, c, right); !sameCentre(next, c) {
			t.Fatalf("Merge makes %s of %s", tellCentre(next), tellCentre(c))
		}
		if next := checkMerge(t, right, c); !sameCentre(next, right) {
			t.Fatalf("Merge with %s makes %s", tellCentre(c), tellCentre(next))
		}
		for _, other := range wrongCentres() {
			if next := checkMerge(t, c, other); !sameCentre(next, c) {
				t.Fatalf("Merge makes %s of %s", tellCentre(next), tellCentre(c))
			}
		}
	}
}

func TestDeliveries(t *testing.T) {
	a, b, c := numbered(1, 1), numbered(1, 3), numbered(2, 1)
	checkHas(t, checkDeliver(t, impl.Centre{}))
	checkHas(t, checkDeliver(t, centreOf(a, c)), a, c)
	checkHas(t, checkDeliver(t, impl.Centre{}, a), a)
	checkHas(t, checkDeliver(t, centreOf(b, c), a), a, b, c)
	checkHas(t, checkDeliver(t, centreOf(a, c), b), a, b, c)
	checkHas(t, checkDeliver(t, centreOf(a, b), c), a, b, c)
	checkHas(t, checkDeliver(t, impl.Centre{}, c, b, a, b), a, b, c)
	checkHas(t, checkDeliver(t, centreOf(a, b, c), a, b, c), a, b, c)
	next := checkDeliver(t, impl.Centre{Version: 7, Off: []int{5, 9}}, c)
	if next.Version != 7 || !slices.Equal(next.Off, []int{5, 9}) {
		t.Errorf("a delivery makes %s", tellCentre(next))
	}
}

func TestTheFirstOfADeviceAndNumberStays(t *testing.T) {
	first, again, third := takenOn(3, 5, 1, 1, 1), takenOn(3, 5, 2, 2, 2), takenOn(3, 5, 3, 3, 3)
	before, behind := numbered(3, 4), numbered(3, 6)
	checkHas(t, checkDeliver(t, centreOf(first), again), first)
	checkHas(t, checkDeliver(t, centreOf(before, first, behind), third, again), before, first, behind)
	checkHas(t, checkDeliver(t, impl.Centre{}, first, again, third), first)
	checkHas(t, checkDeliver(t, impl.Centre{}, third, before, first, behind, again), before, third, behind)
	checkHas(t, checkDeliver(t, centreOf(again), behind, first, before, third, behind), before, again, behind)
	for i := range 40 {
		list := []impl.Control{}
		for j := range 40 {
			list = append(list, takenOn(1, 1, 1+(i+j)%40, 1, 1))
		}
		checkHas(t, checkDeliver(t, impl.Centre{}, list...), takenOn(1, 1, 1+i, 1, 1))
	}
}

func TestDevicesAndNumbersAnywhere(t *testing.T) {
	places := []int{math.MinInt, math.MinInt + 1, -1, 0, 1, 2, math.MaxInt - 1, math.MaxInt}
	want := []impl.Control{}
	for _, device := range places {
		for _, no := range places {
			want = append(want, numbered(device, no))
		}
	}
	r := rand.New(rand.NewSource(41))
	for range 20 {
		list := slices.Clone(want)
		r.Shuffle(len(list), func(i, j int) { list[i], list[j] = list[j], list[i] })
		checkHas(t, checkDeliver(t, impl.Centre{}, list...), want...)
	}
}

func TestTheBoundOfACentre(t *testing.T) {
	all := manyControls(600)
	first, between, last := numbered(1, 1), numbered(all[300].Device, all[300].No-1), numbered(9000, 1)
	checkHas(t, checkDeliver(t, impl.Centre{}, all...), all...)
	checkHas(t, checkDeliver(t, impl.Centre{}, append(slices.Clone(all), last, first)...), all...)
	checkHas(t, checkDeliver(t, centreOf(all...), first, between, last), all...)
	short := slices.Delete(slices.Clone(all), 17, 18)
	for _, x := range []impl.Control{all[17], first, between, last} {
		next := checkDeliver(t, centreOf(short...), x)
		if len(next.Controls) != mostControls || !slices.Contains(next.Controls, x) {
			t.Fatalf("%+v is not there: %s", x, tellCentre(next))
		}
	}
	next := checkDeliver(t, centreOf(short...), last, first, between, all[17])
	checkHas(t, next, append(slices.Clone(short), last)...)
	next = checkDeliver(t, centreOf(short...), first, last)
	checkHas(t, next, append([]impl.Control{first}, short...)...)
}

// What is there already takes no room, ahead of the bound and behind it.
func TestTheBoundIsMetInTheMiddleOfAList(t *testing.T) {
	all := manyControls(600)
	few := all[:597]
	other := takenOn(all[5].Device, all[5].No, 77, 77, 77)
	next := checkDeliver(t, centreOf(few...), all[0], other, numbered(9000, 3), numbered(9000, 3), all[1], numbered(9000, 1), numbered(9000, 1), numbered(9000, 2), all[2], numbered(9000, 4), other, numbered(1, 1), numbered(9000, 1))
	checkHas(t, next, append(slices.Clone(few), numbered(9000, 1), numbered(9000, 2), numbered(9000, 3))...)
	backwards := manyControls(1000)
	slices.Reverse(backwards)
	next = checkDeliver(t, impl.Centre{}, backwards...)
	checkHas(t, next, manyControls(1000)[400:]...)
	twice := append(slices.Clone(backwards[:300]), backwards...)
	checkHas(t, checkDeliver(t, impl.Centre{}, twice...), manyControls(1000)[400:]...)
	checkCentre(t, next, true)
}

func shuffles[T any](list []T) [][]T {
	if len(list) == 0 {
		return [][]T{nil}
	}
	all := [][]T{}
	for i := range list {
		rest := slices.Delete(slices.Clone(list), i, i+1)
		for _, more := range shuffles(rest) {
			all = append(all, append([]T{list[i]}, more...))
		}
	}
	return all
}

func TestControlsComeInAnyOrder(t *testing.T) {
	want := []impl.Control{numbered(1, 1), numbered(1, 3), numbered(2, 1), numbered(2, 2), numbered(5, 9)}
	for _, list := range shuffles(want) {
		whole := checkDeliver(t, impl.Centre{}, list...)
		checkHas(t, whole, want...)
		one := impl.Centre{}
		for _, x := range list {
			one = checkDeliver(t, one, x)
		}
		checkHas(t, one, want...)
		checkHas(t, checkDeliver(t, whole, list...), want...)
		checkHas(t, checkMerge(t, checkDeliver(t, impl.Centre{}, list[:2]...), checkDeliver(t, impl.Centre{}, list[1:]...)), want...)
	}
}

// Lots of what some devices have seen, each cut anywhere, told again and again.
func TestControlsComeHoweverOften(t *testing.T) {
	r := rand.New(rand.NewSource(42))
	for range 12 {
		n := 1 + r.Intn(400)
		want := manyControls(n)
		a, b := impl.Centre{Version: 1, Off: []int{5}}, impl.Centre{Version: 2}
		for _, i := range append(r.Perm(n), r.Perm(n)...) {
			lot := want[i:min(n, i+1+r.Intn(20))]
			if r.Intn(2) == 0 {
				a = impl.Deliver(a, lot)
			} else {
				b = impl.Deliver(b, lot)
			}
		}
		merged := checkMerge(t, a, b)
		checkHas(t, merged, want...)
		if merged.Version != 1 || !slices.Equal(merged.Off, []int{5}) {
			t.Errorf("Merge makes %s", tellCentre(merged))
		}
		checkHas(t, checkMerge(t, b, a), want...)
		checkHas(t, checkMerge(t, merged, merged), want...)
		checkHas(t, checkMerge(t, merged, impl.Centre{}), want...)
		checkHas(t, checkMerge(t, impl.Centre{}, merged), want...)
	}
}

func TestPick(t *testing.T) {
	a, b, c := numbered(1, 1), numbered(1, 3), numbered(2, 1)
	for _, one := range []struct {
		list, want []impl.Control
		picks      []int
	}{
		{nil, nil, nil},
		{nil, nil, []int{0, 1, -1}},
		{[]impl.Control{a, b, c}, nil, nil},
		{[]impl.Control{a}, []impl.Control{a}, []int{0}},
		{[]impl.Control{a, b, c}, []impl.Control{a, b, c}, []int{0, 1, 2}},
		{[]impl.Control{a, b, c}, []impl.Control{c, b, a}, []int{2, 1, 0}},
		{[]impl.Control{a, b, c}, []impl.Control{c}, []int{-1, 2, 3}},
		{[]impl.Control{a, b, c}, []impl.Control{b, b, a, b}, []int{1, 1, 0, 1}},
		{[]impl.Control{a, b, c}, nil, []int{-1, 3, 4, -3, math.MinInt, math.MaxInt}},
		{[]impl.Control{c, a, a}, []impl.Control{a, a, c, c}, []int{1, 2, 0, 0}},
	} {
		if got := checkPick(t, one.list, one.picks...); !slices.Equal(got, one.want) {
			t.Errorf("Pick(%v, %v) = %v", one.list, one.picks, got)
		}
	}
}

// Neither list of Pick has a bound.
func TestPickOfGreatLists(t *testing.T) {
	list := manyControls(2000)
	picks := []int{}
	for i := range 5000 {
		picks = append(picks, i*7%2003)
	}
	checkPick(t, list, picks...)
	if got := impl.Pick(list[:1], make([]int, 100000)); len(got) != 100000 || got[99999] != list[0] {
		t.Errorf("100000 picks make %s", tellControls(got))
	}
}

func TestMergeAtTheBound(t *testing.T) {
	all := manyControls(900)
	next := checkMerge(t, centreOf(all[400:]...), centreOf(all[:400]...))
	checkHas(t, next, append(slices.Clone(all[:100]), all[400:]...)...)
	next = checkMerge(t, centreOf(all[:400]...), centreOf(all[400:]...))
	checkHas(t, next, all[:600]...)
	checkHas(t, checkMerge(t, centreOf(all[:600]...), centreOf(all[300:]...)), all[:600]...)
}

func TestTheFirstCentreCounts(t *testing.T) {
	a := impl.Centre{Version: 3, Off: []int{5}, Controls: []impl.Control{takenOn(1, 1, 1, 1, 1)}}
	b := impl.Centre{Version: 8, Off: []int{7, 9}, Controls: []impl.Control{takenOn(1, 1, 2, 2, 2), takenOn(1, 2, 3, 3, 3)}}
	want := impl.Centre{Version: 3, Off: []int{5}, Controls: []impl.Control{a.Controls[0], b.Controls[1]}}
	if next := checkMerge(t, a, b); !sameCentre(next, want) {
		t.Errorf("Merge makes %s", tellCentre(next))
	}
	want = impl.Centre{Version: 8, Off: []int{7, 9}, Controls: b.Controls}
	if next := checkMerge(t, b, a); !sameCentre(next, want) {
		t.Errorf("Merge makes %s", tellCentre(next))
	}
}

func TestDoubles(t *testing.T) {
	checkDoubles(t, impl.Centre{})
	checkDoubles(t, centreOf(takenOn(1, 1, 7, 10, 14)))
	checkDoubles(t, centreOf(takenOn(1, 1, 7, 10, 14), takenOn(2, 1, 7, 10, 14)), 7)
	checkDoubles(t, centreOf(takenOn(1, 1, 7, 10, 14), takenOn(2, 9, 7, 10, 14)), 7)
	checkDoubles(t, centreOf(takenOn(1, 1, 7, 10, 14), takenOn(1, 2, 7, 10, 14)))
	checkDoubles(t, centreOf(takenOn(1, 1, 7, 10, 14), takenOn(2, 1, 8, 10, 14)))
	checkDoubles(t, centreOf(takenOn(1, 1, 7, 10, 14), takenOn(2, 1, 7, 11, 14)))
	checkDoubles(t, centreOf(takenOn(1, 1, 7, 10, 14), takenOn(2, 1, 7, 10, 15)))
	checkDoubles(t, centreOf(takenOn(1, 1, 7, 10, 14), takenOn(2, 1, 7, 14, 10)))
	checkDoubles(t, centreOf(takenOn(math.MinInt, 1, 7, 10, 14), takenOn(0, 0, 7, 10, 14)), 7)
	checkDoubles(t, centreOf(takenOn(-1, -1, 7, 0, -5), takenOn(0, -1, 7, 0, -5)), 7)
	checkDoubles(t, centreOf(takenOn(0, 1, 7, 10, 14)))
}

func TestDoublesOfWhatWasTakenAlone(t *testing.T) {
	for a := -1; a <= 6; a++ {
		for b := -1; b <= 6; b++ {
			x, y := takenOn(1, 1, 7, 10, 14), takenOn(2, 1, 7, 10, 14)
			x.Said, y.Said = a, b
			want := []int{7}
			if a != 0 || b != 0 {
				want = nil
			}
			checkDoubles(t, centreOf(x, y), want...)
			checkDoubles(t, centreOf(takenOn(1, 1, 9, 10, 14), numberedAnew(x, 2), y, takenOn(3, 1, 9, 10, 14)), append(want, 9)...)
		}
	}
}

func TestDoublesOfTicketsByTheirNumber(t *testing.T) {
	for _, ticket := range []int{math.MinInt, -1000000000, -7, -1, 0} {
		checkDoubles(t, centreOf(takenOn(1, 1, ticket, 10, 14), takenOn(2, 1, ticket, 10, 14)))
	}
	for _, ticket := range []int{1, 2, 999999999, 1000000000, math.MaxInt} {
		checkDoubles(t, centreOf(takenOn(1, 1, ticket, 10, 14), takenOn(2, 1, ticket, 10, 14)), ticket)
	}
}

func TestDoublesAreToldOnceAndAscend(t *testing.T) {
	three := centreOf(takenOn(1, 1, 7, 10, 14), takenOn(2, 1, 7, 10, 14), takenOn(3, 1, 7, 10, 14))
	checkDoubles(t, three, 7)
	pair := centreOf(takenOn(1, 1, 7, 10, 14), takenOn(1, 2, 7, 10, 14), takenOn(2, 1, 7, 10, 14), takenOn(2, 2, 7, 10, 14))
	checkDoubles(t, pair, 7)
	rides := centreOf(takenOn(1, 1, 7, 10, 14), takenOn(1, 2, 7, 20, 15), takenOn(1, 3, 7, 20, 16), takenOn(2, 1, 7, 20, 15), takenOn(2, 2, 7, 10, 14), takenOn(3, 1, 7, 20, 16))
	checkDoubles(t, rides, 7)
	many := centreOf(takenOn(1, 1, 9, 1, 1), takenOn(1, 2, 30, 1, 1), takenOn(1, 3, 2, 1, 1), takenOn(1, 4, 5, 1, 1), takenOn(2, 1, 30, 1, 1), takenOn(2, 2, 2, 1, 1), takenOn(3, 1, 9, 1, 1), takenOn(3, 2, 30, 1, 1), takenOn(3, 3, 6, 1, 1))
	checkDoubles(t, many, 2, 9, 30)
	apart := centreOf(takenOn(1, 1, 7, 10, 14), takenOn(2, 1, 7, 10, 15), takenOn(3, 1, 7, 11, 14), takenOn(4, 1, 7, 11, 15))
	checkDoubles(t, apart)
}

// The chapter does not ask for a right centre here: its controls are told of
// as they stand.
func TestDoublesOfCentresThatAreNotRight(t *testing.T) {
	x, y := takenOn(1, 1, 7, 10, 14), takenOn(2, 1, 7, 10, 14)
	checkDoubles(t, impl.Centre{Version: -1, Controls: []impl.Control{x, y}}, 7)
	checkDoubles(t, impl.Centre{Off: []int{0}, Controls: []impl.Control{x, y}}, 7)
	checkDoubles(t, centreOf(y, x), 7)
	checkDoubles(t, centreOf(y, x, y, x), 7)
	checkDoubles(t, centreOf(x, x))
	checkDoubles(t, centreOf(x, takenOn(1, 1, 8, 10, 14), takenOn(2, 1, 8, 10, 14), y), 7, 8)
	great := centreOf(append(manyControls(900), x, y)...)
	checkDoubles(t, great, 7)
	great = centreOf(append(append([]impl.Control{x}, manyControls(900)...), y)...)
	checkDoubles(t, great, 7)
}

func numbersTo(last int, but ...int) []int {
	list := []int{}
	for no := 1; no <= last; no++ {
		if !slices.Contains(but, no) {
			list = append(list, no)
		}
	}
	return list
}

func deviceWith(device int, numbers ...int) impl.Centre {
	c := impl.Centre{}
	for _, no := range numbers {
		c.Controls = append(c.Controls, numbered(device, no))
	}
	return c
}

func TestMissing(t *testing.T) {
	checkMissing(t, impl.Centre{}, 1)
	checkMissing(t, deviceWith(1, 1), 1)
	checkMissing(t, deviceWith(1, 2), 1, 1)
	checkMissing(t, deviceWith(1, 3), 1, 1, 2)
	checkMissing(t, deviceWith(1, 1, 3), 1, 2)
	checkMissing(t, deviceWith(1, 1, 2, 3, 4, 5), 1)
	checkMissing(t, deviceWith(1, 2, 3, 5, 9), 1, 1, 4, 6, 7, 8)
	checkMissing(t, deviceWith(1, 1, 3), 2)
	checkMissing(t, deviceWith(1, 1, 3), 0)
	checkMissing(t, deviceWith(1, 1, 3), -1)
	checkMissing(t, centreOf(numbered(1, 4), numbered(2, 1), numbered(2, 2), numbered(2, 6), numbered(3, 3)), 2, 3, 4, 5)
	for _, device := range []int{math.MinInt, -1, 0, 9999, 10000, math.MaxInt} {
		checkMissing(t, deviceWith(device, 1, 3), device, 2)
		checkMissing(t, deviceWith(device, 1, 3), 1)
	}
}

func TestMissingOfLeastNumbers(t *testing.T) {
	for _, least := range []int{math.MinInt, -1000, -2, -1, 0} {
		checkMissing(t, deviceWith(1, least), 1)
		checkMissing(t, deviceWith(1, least, 1), 1)
		checkMissing(t, deviceWith(1, least, 4), 1, 1, 2, 3)
		checkMissing(t, deviceWith(1, least, 1, 2, 4), 1, 3)
		checkMissing(t, deviceWith(1, least, math.MaxInt), 1, numbersTo(1000)...)
	}
	checkMissing(t, deviceWith(1, math.MinInt, -5, -1, 0), 1)
}

func TestMissingOfGreatestNumbers(t *testing.T) {
	checkMissing(t, deviceWith(1, 999), 1, numbersTo(998)...)
	checkMissing(t, deviceWith(1, 1000), 1, numbersTo(999)...)
	checkMissing(t, deviceWith(1, 1001), 1, numbersTo(1000)...)
	checkMissing(t, deviceWith(1, 1002), 1, numbersTo(1000)...)
	checkMissing(t, deviceWith(1, 1000, 1001), 1, numbersTo(999)...)
	checkMissing(t, deviceWith(1, math.MaxInt), 1, numbersTo(1000)...)
	checkMissing(t, deviceWith(1, 5, 1000, math.MaxInt), 1, numbersTo(999, 5)...)
	checkMissing(t, deviceWith(1, 1, 999, 1001, 1002), 1, numbersTo(1000, 1, 999)...)
	checkMissing(t, deviceWith(1, numbersTo(600)...), 1)
	checkMissing(t, deviceWith(1, numbersTo(600, 1)...), 1, 1)
	checkMissing(t, deviceWith(1, numbersTo(600, 599)...), 1, 599)
	checkMissing(t, deviceWith(1, numbersTo(599, 7, 300, 598)...), 1, 7, 300, 598)
}

// The chapter does not ask for a right centre here either.
func TestMissingOfCentresThatAreNotRight(t *testing.T) {
	checkMissing(t, impl.Centre{Version: -1, Controls: []impl.Control{numbered(1, 3)}}, 1, 1, 2)
	checkMissing(t, impl.Centre{Off: []int{0}, Controls: []impl.Control{numbered(1, 3)}}, 1, 1, 2)
	checkMissing(t, deviceWith(1, 5, 3, 1, 3), 1, 2, 4)
	checkMissing(t, deviceWith(1, 3, 3, 3), 1, 1, 2)
	checkMissing(t, centreOf(numbered(1, 2), numbered(2, 9), numbered(1, 4), numbered(2, 1)), 1, 1, 3)
	checkMissing(t, deviceWith(1, numbersTo(1000)...), 1)
	checkMissing(t, deviceWith(1, numbersTo(1001, 1000)...), 1, 1000)
	checkMissing(t, deviceWith(1, numbersTo(1200, 3, 700, 1000, 1001)...), 1, 3, 700, 1000)
}

func anyControl(r *rand.Rand) impl.Control {
	return impl.Control{Device: r.Intn(5) - 1, No: r.Intn(40) - 2, Ticket: r.Intn(12) - 1, Train: 1 + r.Intn(2), Day: r.Intn(2), Said: r.Intn(2)}
}

func anyControls(r *rand.Rand, n int) []impl.Control {
	list := make([]impl.Control, n)
	for i := range list {
		list[i] = anyControl(r)
	}
	return list
}

func anyPicks(r *rand.Rand, n int) []int {
	list := []int{}
	for range r.Intn(12) {
		list = append(list, r.Intn(n+2)-1)
	}
	return list
}

func TestAnySessionOfACentre(t *testing.T) {
	r := rand.New(rand.NewSource(43))
	doubles, missing, revoked := 0, 0, 0
	for range 60 {
		c, other := impl.Centre{}, impl.Centre{Version: 5}
		first := map[[2]int]impl.Control{}
		off := map[int]int{}
		for range 30 {
			list := anyControls(r, r.Intn(6))
			picked := checkPick(t, list, anyPicks(r, len(list))...)
			switch r.Intn(4) {
			case 0:
				id := r.Intn(12) - 1
				c = checkRevoke(t, c, id, id > 0 && off[id] == 0)
				if id > 0 && off[id] == 0 {
					off[id]++
					revoked++
				}
				continue
			case 1:
				other = checkDeliver(t, other, picked...)
				picked = other.Controls
				c = checkMerge(t, c, other)
			default:
				c = checkDeliver(t, c, picked...)
			}
			for _, x := range picked {
				if _, there := first[[2]int{x.Device, x.No}]; !there {
					first[[2]int{x.Device, x.No}] = x
				}
			}
		}
		checkCentre(t, c, true)
		for _, x := range c.Controls {
			if first[[2]int{x.Device, x.No}] != x {
				t.Fatalf("%+v did not come, or not first", x)
			}
		}
		if len(c.Controls) != len(first) || len(c.Off) != len(off) || c.Version != len(off) {
			t.Fatalf("%d controls and %d numbers make %s", len(first), len(off), tellCentre(c))
		}
		checkDoubles(t, c, wantDoubles(c)...)
		doubles += len(wantDoubles(c))
		for device := -2; device < 5; device++ {
			checkMissing(t, c, device, wantMissing(c, device)...)
			missing += len(wantMissing(c, device))
		}
	}
	if doubles < 20 || missing < 200 || revoked < 100 {
		t.Errorf("%d doubles, %d missing, %d off", doubles, missing, revoked)
	}
}

// What devices have seen, cut off and told anew, comes to a centre that says
// which ticket was taken twice.
func TestWhatDevicesHaveSeenComesToTheCentre(t *testing.T) {
	text := issuedText(t, handTicket())
	id := handTicket().Id
	centre := impl.Centre{}
	seen := []impl.Control{}
	for device := 1; device <= 3; device++ {
		h := checkHandStart(t, device, ticketParams, openOf(ticketParams, ticketSecret), ticketIssuer, true)
		for i := range 4 {
			h, _ = impl.Inspect(h, text, 10, 13+(i+device)%3)
		}
		seen = append(seen, h.Seen...)
		centre = checkDeliver(t, centre, h.Seen[3], h.Seen[1])
		checkMissing(t, centre, device, 1, 3)
		centre = checkDeliver(t, centre, h.Seen...)
		checkMissing(t, centre, device)
	}
	checkHas(t, centre, seen...)
	checkDoubles(t, centre, id)
	centre = checkRevoke(t, centre, id, true)
	h := checkHandStart(t, 4, ticketParams, openOf(ticketParams, ticketSecret), ticketIssuer, true)
	h = checkUpdate(t, h, centre.Version, centre.Off, true)
	checkSays(t, h, text, 10, 14, id, impl.CheckOff)
}

// No two lists of an answer share memory, nor does one with an argument that
// was handed in twice.
func TestListsOfACentreAreApart(t *testing.T) {
	room := manyOff(200)
	controls := manyControls(600)
	for _, n := range []int{0, 1, 2, 199, 200} {
		for _, m := range []int{0, 1, 598, 599, 600} {
			c := impl.Centre{Version: 1, Off: room[:n], Controls: controls[:m]}
			wrong := impl.Centre{Version: -1, Off: room[:n], Controls: controls[:m]}
			revoked, _ := impl.Revoke(c, 1)
			refused, _ := impl.Revoke(c, 0)
			notRight, _ := impl.Revoke(wrong, 1)
			answers := []impl.Centre{
				revoked, refused, notRight, impl.Deliver(c, c.Controls), impl.Deliver(c, nil), impl.Deliver(c, controls), impl.Deliver(wrong, c.Controls),
				impl.Deliver(impl.Centre{}, c.Controls), impl.Merge(c, c), impl.Merge(c, wrong), impl.Merge(wrong, c), impl.Merge(c, impl.Centre{}), impl.Merge(impl.Centre{}, c),
				{Off: impl.Doubles(c), Controls: impl.Pick(c.Controls, room[:n])}, {Off: impl.Missing(c, 2), Controls: impl.Pick(c.Controls, numbersTo(m-1))},
			}
			for _, next := range answers {
				checkNew(t, centreSpans(next), []span{listSpan(room), listSpan(controls)})
				checkApart(t, centreSpans(next))
				clear(next.Off[:cap(next.Off)])
				clear(next.Controls[:cap(next.Controls)])
			}
		}
	}
	if !slices.Equal(room, manyOff(200)) || !slices.Equal(controls, manyControls(600)) {
		t.Error("an argument was written into")
	}
}

func TestCentresThatWereToldStayAsTheyWere(t *testing.T) {
	r := rand.New(rand.NewSource(44))
	list, kept := []impl.Centre{busyCentre()}, []impl.Centre{busyCentre()}
	for range 300 {
		from, other := list[r.Intn(len(list))], list[r.Intn(len(list))]
		var next impl.Centre
		switch r.Intn(3) {
		case 0:
			next, _ = impl.Revoke(from, r.Intn(100))
		case 1:
			next = impl.Merge(from, other)
		default:
			next = impl.Deliver(from, impl.Pick(other.Controls, anyPicks(r, 9)))
			next = impl.Deliver(next, anyControls(r, 3))
		}
		list, kept = append(list, next), append(kept, copiedCentre(next))
	}
	for i := range list {
		if !sameCentre(list[i], kept[i]) {
			t.Fatalf("centre %d was %s and is %s", i, tellCentre(kept[i]), tellCentre(list[i]))
		}
	}
}

// Calls at the same time have nothing to do with each other.
func TestCentresAtTheSameTime(t *testing.T) {
	c := roomyCentre(busyCentre())
	c.Controls = append(c.Controls[:0:0], takenOn(-3, 1, 7, 1, 1), takenOn(-2, 3, 7, 1, 1))
	list := manyControls(50)
	want := wantDeliver(c, list)
	var group sync.WaitGroup
	wrong := make([]int, 8)
	for i := range wrong {
		group.Go(func() {
			for j := range 100 {
				if !sameCentre(impl.Deliver(c, list), want) || !sameCentre(impl.Merge(c, centreOf(list...)), want) {
					wrong[i]++
				}
				if next, ok := impl.Revoke(c, 1+j); !ok || next.Off[0] != 1+j {
					wrong[i]++
				}
				if !slices.Equal(impl.Doubles(c), []int{7}) || !slices.Equal(impl.Missing(c, -2), []int{1, 2}) {
					wrong[i]++
				}
			}
		})
	}
	group.Wait()
	if slices.Max(wrong) > 0 {
		t.Errorf("wrong answers: %v", wrong)
	}
}

func TestCentresAnswerAtAnyArguments(t *testing.T) {
	for _, a := range edgeNumbers {
		for _, b := range edgeNumbers {
			x, y := impl.Control{Device: a, No: b, Ticket: b, Train: a, Day: b}, impl.Control{Device: b, No: a, Ticket: b, Train: a, Day: b}
			for _, c := range []impl.Centre{
				{Version: a, Off: []int{b}, Controls: []impl.Control{x, y}},
				{Version: 1, Off: []int{a, b}, Controls: []impl.Control{y}},
				{Version: b, Controls: []impl.Control{x}},
			} {
				checkCentre(t, c, rightCentre(c))
				_, will := wantRevoke(c, a)
				checkRevoke(t, c, a, will)
				checkDeliver(t, c, y, x, y)
				checkMerge(t, c, centreOf(y))
				checkMerge(t, centreOf(y), c)
				checkDoubles(t, c, wantDoubles(c)...)
				checkMissing(t, c, a, wantMissing(c, a)...)
			}
			checkPick(t, []impl.Control{x, y}, a, b, 1, 0)
		}
	}
	great := impl.Centre{Off: make([]int, 100000), Controls: make([]impl.Control, 100000)}
	checkCentre(t, great, false)
	checkRevoke(t, great, 5, false)
	checkMerge(t, impl.Centre{}, great)
	checkMerge(t, great, impl.Centre{})
	if list := impl.Deliver(impl.Centre{}, great.Controls).Controls; len(list) != 1 {
		t.Errorf("one control makes %s", tellControls(list))
	}
	if list := impl.Deliver(impl.Centre{}, manyControls(200000)).Controls; !slices.Equal(list, manyControls(600)) {
		t.Errorf("200000 controls make %s", tellControls(list))
	}
	if got := append(impl.Doubles(great), impl.Missing(great, 0)...); len(got) > 0 {
		t.Errorf("of noughts alone there is %v", got)
	}
}
