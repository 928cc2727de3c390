package tests

import (
	"math"
	"math/rand"
	"slices"
	"testing"

	"loop.example/g00211/impl"
)

var (
	noHoldTrains = []int{math.MinInt, -9999, -1, 0, 10000, 10001, math.MaxInt}
	noHoldDays   = []int{math.MinInt, -99999, -1, 100000, 100001, math.MaxInt}
	noHoldSeats  = []int{math.MinInt, -99, -1, 0, 100, 101, math.MaxInt}
	noOrders     = []int{math.MinInt, math.MinInt + 1, -7, -1, 0}
)

// lastHoldStop is the greatest B that a hold may have.
const lastHoldStop = 19

func holdOf(coach, seat, a, b int) impl.Hold {
	return impl.Hold{Train: 10, Day: 5, Coach: coach, Seat: seat, A: a, B: b, Order: 1}
}

// holdsBy takes the coach, the seat, A and B of each hold.
func holdsBy(numbers ...int) []impl.Hold {
	var list []impl.Hold
	for n := range slices.Chunk(numbers, 4) {
		list = append(list, holdOf(n[0], n[1], n[2], n[3]))
	}
	return list
}

func ordered(h impl.Hold, order int) impl.Hold {
	h.Order = order
	return h
}

// manyHolds are of one seat each.
func manyHolds(n int) []impl.Hold {
	list := make([]impl.Hold, n)
	for i := range list {
		list[i] = ordered(holdOf(1+i%20, 1+i/20, i%19, i%19+1), 1+i%7)
	}
	return list
}

// seatTrain has the number of the holds above, and stops 0 to stops - 1.
func seatTrain(coaches, seats, stops int) impl.Train {
	return seated(longTrain(10, stops), coaches, seats)
}

func rightHold(h impl.Hold) bool {
	return within(h.Train, 1, 9999) && within(h.Day, 0, 99999) && within(h.Coach, 1, 99) && within(h.Seat, 1, 99) &&
		within(h.A, 0, 18) && within(h.B, 1, lastHoldStop) && h.A < h.B && within(h.Order, 1, math.MaxInt)
}

// partsOf is each seat with a stop from which a right hold goes on to the next.
func partsOf(h impl.Hold) [][5]int {
	var parts [][5]int
	for stop := h.A; stop < h.B; stop++ {
		parts = append(parts, [5]int{h.Train, h.Day, h.Coach, h.Seat, stop})
	}
	return parts
}

func rightHolds(list []impl.Hold) bool {
	if len(list) > 400 {
		return false
	}
	met := map[[5]int]int{}
	for _, h := range list {
		if !rightHold(h) {
			return false
		}
		for _, part := range partsOf(h) {
			met[part]++
			if met[part] > 1 {
				return false
			}
		}
	}
	return true
}

func sameSeat(a, b impl.Hold) bool {
	return a.Train == b.Train && a.Day == b.Day && a.Coach == b.Coach && a.Seat == b.Seat
}

func wantMeet(a, b impl.Hold) bool {
	return sameSeat(a, b) && a.A < b.B && b.A < a.B
}

func rightAsk(x impl.Train, day, a, b int) bool {
	return wantRuns(x, day) && within(a, 0, len(x.Stops)-1) && within(b, 0, len(x.Stops)-1) && a < b
}

func wantFreeSeats(list []impl.Hold, x impl.Train, day, a, b int) []impl.Hold {
	if !rightAsk(x, day, a, b) {
		return nil
	}
	var free []impl.Hold
	for i := range x.Coaches * x.Seats {
		h := impl.Hold{Train: x.Id, Day: day, Coach: 1 + i/x.Seats, Seat: 1 + i%x.Seats, A: a, B: b}
		if !slices.ContainsFunc(list, func(other impl.Hold) bool { return wantMeet(other, h) }) {
			free = append(free, h)
		}
	}
	return free
}

// stepsAround goes from stop to stop, away from a free hold, up to the next
// hold or the end of the train's way.
func stepsAround(list []impl.Hold, h impl.Hold, last int) int {
	ends := func(stop int) bool {
		return slices.ContainsFunc(list, func(other impl.Hold) bool { return sameSeat(other, h) && other.B == stop })
	}
	begins := func(stop int) bool {
		return slices.ContainsFunc(list, func(other impl.Hold) bool { return sameSeat(other, h) && other.A == stop })
	}
	steps := 0
	for stop := h.A; stop > 0 && !ends(stop); stop-- {
		steps++
	}
	for stop := h.B; stop < last && !begins(stop); stop++ {
		steps++
	}
	return steps
}

func wantBest(list []impl.Hold, x impl.Train, day, a, b int) (impl.Hold, bool) {
	free := wantFreeSeats(list, x, day, a, b)
	for steps := range 20 {
		for _, h := range free {
			if stepsAround(list, h, len(x.Stops)-1) == steps {
				return h, true
			}
		}
	}
	return impl.Hold{}, false
}

func checkHolds(t *testing.T, list []impl.Hold, want bool) {
	t.Helper()
	if right := rightHolds(list); right != want {
		t.Fatalf("the test itself takes %+v for right: %t", list, right)
	}
	if got := impl.HoldsOk(list); got != want {
		t.Errorf("HoldsOk(%+v) = %t", list, got)
	}
}

func checkMeet(t *testing.T, a, b impl.Hold, want bool) {
	t.Helper()
	if one, other := impl.Meet(a, b), impl.Meet(b, a); one != want || other != want {
		t.Errorf("%+v and %+v meet: %t, and the other way round: %t", a, b, one, other)
	}
}

func checkAsk(t *testing.T, list []impl.Hold, x impl.Train, day, a, b int) {
	t.Helper()
	free := wantFreeSeats(list, x, day, a, b)
	count := len(free)
	if !rightAsk(x, day, a, b) {
		count = -1
	}
	if got := impl.FreeCount(list, x, day, a, b); got != count {
		t.Errorf("FreeCount(%+v, %+v, %d, %d, %d) = %d, want %d", list, x, day, a, b, got, count)
	}
	first := append(free, impl.Hold{})[0]
	if coach, seat, ok := impl.FreeSeat(list, x, day, a, b); coach != first.Coach || seat != first.Seat || ok != (count > 0) {
		t.Errorf("FreeSeat(%+v, %+v, %d, %d, %d) = %d, %d, %t, want %+v", list, x, day, a, b, coach, seat, ok, first)
	}
	best, will := wantBest(list, x, day, a, b)
	if coach, seat, ok := impl.BestSeat(list, x, day, a, b); coach != best.Coach || seat != best.Seat || ok != will {
		t.Errorf("BestSeat(%+v, %+v, %d, %d, %d) = %d, %d, %t, want %+v, %t", list, x, day, a, b, coach, seat, ok, best, will)
	}
}

// checkSeats takes the coach and the seat of FreeSeat and of BestSeat.
func checkSeats(t *testing.T, list []impl.Hold, x impl.Train, a, b, count int, seats ...int) {
	t.Helper()
	if got := impl.FreeCount(list, x, 5, a, b); got != count {
		t.Errorf("FreeCount(%+v, %+v, 5, %d, %d) = %d, want %d", list, x, a, b, got, count)
	}
	if coach, seat, ok := impl.FreeSeat(list, x, 5, a, b); coach != seats[0] || seat != seats[1] || !ok {
		t.Errorf("FreeSeat(%+v, %+v, 5, %d, %d) = %d, %d, %t, want %v", list, x, a, b, coach, seat, ok, seats[:2])
	}
	if coach, seat, ok := impl.BestSeat(list, x, 5, a, b); coach != seats[2] || seat != seats[3] || !ok {
		t.Errorf("BestSeat(%+v, %+v, 5, %d, %d) = %d, %d, %t, want %v", list, x, a, b, coach, seat, ok, seats[2:])
	}
	checkAsk(t, list, x, 5, a, b)
	checkAsk(t, backwards(list), x, 5, a, b)
}

func checkNoSeat(t *testing.T, list []impl.Hold, x impl.Train, day, a, b, count int) {
	t.Helper()
	if got := impl.FreeCount(list, x, day, a, b); got != count {
		t.Errorf("FreeCount(%+v, %+v, %d, %d, %d) = %d, want %d", list, x, day, a, b, got, count)
	}
	if coach, seat, ok := impl.FreeSeat(list, x, day, a, b); coach != 0 || seat != 0 || ok {
		t.Errorf("FreeSeat(%+v, %+v, %d, %d, %d) = %d, %d, %t", list, x, day, a, b, coach, seat, ok)
	}
	if coach, seat, ok := impl.BestSeat(list, x, day, a, b); coach != 0 || seat != 0 || ok {
		t.Errorf("BestSeat(%+v, %+v, %d, %d, %d) = %d, %d, %t", list, x, day, a, b, coach, seat, ok)
	}
	checkAsk(t, list, x, day, a, b)
}

// checkTake answers the list that is told.
func checkTake(t *testing.T, list []impl.Hold, h impl.Hold, want bool) []impl.Hold {
	t.Helper()
	longer := append(slices.Clone(list), h)
	if right := rightHolds(longer); right != want {
		t.Fatalf("the test itself takes %+v for right: %t", longer, right)
	}
	told := list
	if want {
		told = longer
	}
	got, ok := impl.Take(list, h)
	if !slices.Equal(got, told) || ok != want {
		t.Errorf("Take(%+v, %+v) = %+v, %t", list, h, got, ok)
	}
	return got
}

func checkRelease(t *testing.T, list []impl.Hold, order int) {
	t.Helper()
	var held, left []impl.Hold
	for _, h := range list {
		if h.Order == order {
			held = append(held, h)
		} else {
			left = append(left, h)
		}
	}
	if got := impl.Held(list, order); !slices.Equal(got, held) {
		t.Errorf("Held(%+v, %d) = %+v, want %+v", list, order, got, held)
	}
	if got := impl.Release(list, order); !slices.Equal(got, left) {
		t.Errorf("Release(%+v, %d) = %+v, want %+v", list, order, got, left)
	}
}

func checkOneHold(t *testing.T, h impl.Hold, want bool) {
	t.Helper()
	checkHolds(t, []impl.Hold{h}, want)
	checkTake(t, nil, h, want)
	other := impl.Hold{Train: 4321, Day: 54321, Coach: 43, Seat: 21, A: 3, B: 9, Order: 77}
	checkHolds(t, []impl.Hold{other, h}, want)
	checkTake(t, []impl.Hold{other}, h, want)
}

func TestSeatConstants(t *testing.T) {
	if impl.MaxHolds != 400 {
		t.Errorf("MaxHolds is %d", impl.MaxHolds)
	}
}

// holdBounds tells for each number of a hold which ones it may be and which not.
var holdBounds = []struct {
	name  string
	put   func(h *impl.Hold, n int)
	right []int
	wrong []int
}{
	{"train", func(h *impl.Hold, n int) { h.Train = n }, []int{1, 2, 9998, 9999}, noHoldTrains},
	{"day", func(h *impl.Hold, n int) { h.Day = n }, []int{0, 1, 99998, 99999}, noHoldDays},
	{"coach", func(h *impl.Hold, n int) { h.Coach = n }, []int{1, 2, 20, 21, 98, 99}, noHoldSeats},
	{"seat", func(h *impl.Hold, n int) { h.Seat = n }, []int{1, 2, 90, 91, 98, 99}, noHoldSeats},
	{"order", func(h *impl.Hold, n int) { h.Order = n }, []int{1, 2, 100, 101, 999999999, 1 << 40, math.MaxInt}, noOrders},
}

func TestNumbersOfAHoldAtTheirBounds(t *testing.T) {
	for _, field := range holdBounds {
		t.Run(field.name, func(t *testing.T) {
			for _, n := range field.right {
				h := holdOf(1, 1, 0, 1)
				field.put(&h, n)
				checkOneHold(t, h, true)
			}
			for _, n := range field.wrong {
				h := holdOf(1, 1, 0, 1)
				field.put(&h, n)
				checkOneHold(t, h, false)
			}
		})
	}
}

func TestStopsOfAHoldAtTheirBounds(t *testing.T) {
	stops := []int{math.MinInt, math.MinInt + 1, -20, -2, -1, 0, 1, 2, 9, 17, 18, 19, 20, 21, 4000, math.MaxInt - 1, math.MaxInt}
	for _, a := range stops {
		for _, b := range stops {
			checkOneHold(t, holdOf(1, 1, a, b), a >= 0 && b > a && b <= impl.MaxStops-1)
		}
	}
	for a := range 19 {
		checkOneHold(t, holdOf(1, 1, a, a), false)
		checkOneHold(t, holdOf(1, 1, a, a+1), true)
		checkOneHold(t, holdOf(1, 1, a, impl.MaxStops-1), true)
		checkOneHold(t, holdOf(1, 1, a, impl.MaxStops), false)
		checkOneHold(t, holdOf(1, 1, a+1, a), false)
	}
	checkOneHold(t, impl.Hold{}, false)
}

func TestHoldsAreCounted(t *testing.T) {
	checkHolds(t, nil, true)
	checkHolds(t, []impl.Hold{}, true)
	for _, n := range []int{1, 2, 200, 399, 400} {
		checkHolds(t, manyHolds(n), true)
	}
	for _, n := range []int{401, 402, 800} {
		checkHolds(t, manyHolds(n), false)
	}
	next := manyHolds(401)[400]
	checkTake(t, manyHolds(399), next, true)
	checkTake(t, manyHolds(400), next, false)
	checkTake(t, manyHolds(401), next, false)
	checkTake(t, manyHolds(800), holdOf(99, 99, 0, 1), false)
}

// One wrong hold, wherever it stands, is enough.
func TestEachHoldIsLookedAt(t *testing.T) {
	var wrong []impl.Hold
	for _, field := range holdBounds {
		for _, n := range field.wrong {
			h := holdOf(50, 50, 0, 1)
			field.put(&h, n)
			wrong = append(wrong, h)
		}
	}
	wrong = append(wrong, impl.Hold{}, holdOf(50, 50, -1, 1), holdOf(50, 50, 3, 3), holdOf(50, 50, 4, 3), holdOf(50, 50, 18, 20))
	for _, n := range []int{1, 2, 5, 60} {
		for i := range n {
			for _, h := range wrong {
				list := manyHolds(n)
				checkHolds(t, list, true)
				list[i] = h
				checkHolds(t, list, false)
				checkTake(t, list, holdOf(60, 60, 0, 1), false)
			}
		}
	}
	for _, i := range []int{0, 1, 200, 398, 399} {
		list := manyHolds(impl.MaxHolds)
		list[i].Order = 0
		checkHolds(t, list, false)
	}
}

// Two that meet are found wherever they stand and whatever is between them,
// be it of their own seat.
func TestTwoHoldsThatMeetAnywhere(t *testing.T) {
	for _, n := range []int{2, 3, 9, 40} {
		for i := range n {
			for j := range i {
				list := manyHolds(n)
				list[i], list[j] = holdOf(50, 50, 3, 7), ordered(holdOf(50, 50, 6, 9), 2)
				checkHolds(t, list, false)
				list[j].A = 7
				checkHolds(t, list, true)
			}
		}
	}
	list := manyHolds(impl.MaxHolds)
	list[399] = ordered(list[0], 55)
	checkHolds(t, list, false)
	for i := range 19 {
		for j := range 19 {
			full := fullSeat()
			full[i].B = min(full[i].B+j, lastHoldStop)
			checkHolds(t, full, full[i].B == i+1)
			checkHolds(t, backwards(full), full[i].B == i+1)
		}
	}
}

// fullSeat is one seat held from each stop to the next.
func fullSeat() []impl.Hold {
	var list []impl.Hold
	for stop := range lastHoldStop {
		list = append(list, ordered(holdOf(1, 1, stop, stop+1), stop+1))
	}
	return list
}

func TestHoldsThatDifferInOneNumberOfTheirSeatAlone(t *testing.T) {
	h := impl.Hold{Train: 10, Day: 5, Coach: 3, Seat: 4, A: 2, B: 6, Order: 1}
	for _, field := range holdBounds {
		other := h
		field.put(&other, 7)
		meet := field.name == "order"
		checkMeet(t, h, other, meet)
		checkHolds(t, []impl.Hold{h, other}, !meet)
		checkHolds(t, []impl.Hold{other, h}, !meet)
		checkTake(t, []impl.Hold{h}, other, !meet)
	}
	swapped := h
	swapped.Coach, swapped.Seat = h.Seat, h.Coach
	checkMeet(t, h, swapped, false)
	swapped = h
	swapped.Train, swapped.Day = h.Day, h.Train
	checkMeet(t, h, swapped, false)
	for _, n := range [][4]int{{10, 5, 11, 1}, {10, 5, 1, 11}, {10, 51, 1, 1}, {105, 1, 1, 1}} {
		other := impl.Hold{Train: n[0], Day: n[1], Coach: n[2], Seat: n[3], A: 2, B: 6, Order: 1}
		checkMeet(t, impl.Hold{Train: 10, Day: 5, Coach: 1, Seat: 1, A: 2, B: 6, Order: 1}, other, false)
	}
}

func TestHoldsThatTouchAndThatMeet(t *testing.T) {
	for _, n := range []struct {
		name       string
		a, b, c, d int
		meet       bool
	}{
		{"touch", 2, 5, 5, 8, false},
		{"touch at the beginning", 0, 1, 1, 2, false},
		{"touch at the end", 17, 18, 18, 19, false},
		{"a stop between", 2, 5, 6, 8, false},
		{"far from each other", 0, 1, 18, 19, false},
		{"overlap by one stop", 2, 5, 4, 8, true},
		{"overlap by one stop at the beginning", 0, 2, 1, 3, true},
		{"overlap by more", 2, 7, 4, 9, true},
		{"inside", 2, 9, 4, 6, true},
		{"inside from the beginning", 2, 9, 2, 6, true},
		{"inside up to the end", 2, 9, 6, 9, true},
		{"inside of all", 0, 19, 7, 8, true},
		{"alike", 2, 5, 2, 5, true},
		{"alike and short", 0, 1, 0, 1, true},
		{"alike and long", 0, 19, 0, 19, true},
	} {
		t.Run(n.name, func(t *testing.T) {
			one, other := holdOf(3, 4, n.a, n.b), ordered(holdOf(3, 4, n.c, n.d), 2)
			checkMeet(t, one, other, n.meet)
			checkHolds(t, []impl.Hold{one, other}, !n.meet)
			checkHolds(t, []impl.Hold{other, one}, !n.meet)
			checkTake(t, []impl.Hold{one}, other, !n.meet)
			checkTake(t, []impl.Hold{other}, one, !n.meet)
			other.Seat = 5
			checkMeet(t, one, other, false)
			checkHolds(t, []impl.Hold{one, other}, true)
		})
	}
}

func TestAnyTwoStretchesOfASeat(t *testing.T) {
	for a := range lastHoldStop {
		for b := a + 1; b <= lastHoldStop; b++ {
			for c := range lastHoldStop {
				for d := c + 1; d <= lastHoldStop; d++ {
					two := holdsBy(1, 1, a, b, 1, 1, c, d)
					meet := false
					for _, part := range partsOf(two[0]) {
						meet = meet || slices.Contains(partsOf(two[1]), part)
					}
					checkMeet(t, two[0], two[1], meet)
					checkHolds(t, two, !meet)
				}
			}
		}
	}
}

// Meet asks for no right holds: it is what its words say of any numbers.
func TestMeetOfHoldsThatAreNotRight(t *testing.T) {
	for _, a := range edgeNumbers {
		for _, b := range edgeNumbers {
			for _, c := range edgeNumbers {
				one := impl.Hold{Train: a, Day: b, Coach: c, Seat: a, A: a, B: b, Order: c}
				for _, d := range edgeNumbers {
					other := impl.Hold{Train: a, Day: b, Coach: c, Seat: a, A: c, B: d}
					checkMeet(t, one, other, a < d && c < b)
				}
			}
		}
	}
	checkMeet(t, impl.Hold{}, impl.Hold{}, false)
	checkMeet(t, impl.Hold{B: 1}, impl.Hold{B: 1}, true)
	checkMeet(t, holdOf(1, 1, 5, 5), holdOf(1, 1, 4, 6), true)
	checkMeet(t, holdOf(1, 1, 5, 5), holdOf(1, 1, 5, 6), false)
}

func TestSeatsOfASmallTrain(t *testing.T) {
	x := threeStops()
	checkSeats(t, nil, x, 0, 1, 2, 1, 1, 1, 1)
	checkSeats(t, nil, x, 0, 2, 2, 1, 1, 1, 1)
	list := holdsBy(1, 2, 0, 1)
	checkSeats(t, list, x, 1, 2, 2, 1, 1, 1, 2)
	checkSeats(t, list, x, 0, 1, 1, 1, 1, 1, 1)
	checkSeats(t, list, x, 0, 2, 1, 1, 1, 1, 1)
	list = append(list, holdOf(1, 1, 1, 2))
	checkSeats(t, list, x, 0, 1, 1, 1, 1, 1, 1)
	checkSeats(t, list, x, 1, 2, 1, 1, 2, 1, 2)
	checkNoSeat(t, list, x, 5, 0, 2, 0)
	checkAsk(t, list, x, 6, 0, 2)
	checkAsk(t, list, x, 4, 0, 2)
}

func TestATrainWithoutSeats(t *testing.T) {
	x := longTrain(10, 4)
	for _, list := range [][]impl.Hold{nil, {}, holdsBy(1, 1, 0, 3), manyHolds(400)} {
		for a := range 4 {
			for b := a + 1; b < 4; b++ {
				checkNoSeat(t, list, x, 5, a, b, 0)
			}
			checkNoSeat(t, list, x, 5, a, a, -1)
		}
	}
}

func TestATrainWithOneSeat(t *testing.T) {
	x := seatTrain(1, 1, 5)
	checkSeats(t, nil, x, 0, 4, 1, 1, 1, 1, 1)
	list := holdsBy(1, 1, 1, 3)
	checkSeats(t, list, x, 0, 1, 1, 1, 1, 1, 1)
	checkSeats(t, list, x, 3, 4, 1, 1, 1, 1, 1)
	for _, n := range [][2]int{{0, 2}, {0, 3}, {0, 4}, {1, 2}, {1, 3}, {1, 4}, {2, 3}, {2, 4}} {
		checkNoSeat(t, list, x, 5, n[0], n[1], 0)
	}
	checkSeats(t, holdsBy(1, 2, 0, 4, 2, 1, 0, 4), x, 0, 4, 1, 1, 1, 1, 1)
}

// Coach by coach, and in each seat by seat.
func TestTheFirstSeatIsTold(t *testing.T) {
	x := seatTrain(3, 4, 6)
	var list []impl.Hold
	for coach := 1; coach <= 3; coach++ {
		for seat := 1; seat <= 4; seat++ {
			checkSeats(t, list, x, 1, 4, 12-len(list), coach, seat, coach, seat)
			list = append(list, holdOf(coach, seat, 1, 4))
		}
	}
	checkNoSeat(t, list, x, 5, 1, 4, 0)
	checkNoSeat(t, backwards(list), x, 5, 3, 5, 0)
	checkSeats(t, list, x, 4, 5, 12, 1, 1, 1, 1)
	checkSeats(t, list[1:], x, 2, 3, 1, 1, 1, 1, 1)
	checkSeats(t, list[:11], x, 2, 3, 1, 3, 4, 3, 4)
	checkSeats(t, slices.Concat(list[:5], list[6:]), x, 2, 3, 1, 2, 2, 2, 2)
}

func TestTheGreatestTrain(t *testing.T) {
	x := seatTrain(20, 90, 20)
	checkSeats(t, nil, x, 0, 19, 1800, 1, 1, 1, 1)
	var list []impl.Hold
	for i := range impl.MaxHolds {
		list = append(list, holdOf(1+i/90, 1+i%90, 0, 19))
	}
	checkHolds(t, list, true)
	checkSeats(t, list, x, 0, 19, 1400, 5, 41, 5, 41)
	last := append(list, holdOf(20, 90, 0, 9))
	checkSeats(t, last[1:], x, 9, 10, 1401, 1, 1, 20, 90)
}

// What holds of other trains, days, coaches and seats there are is no matter,
// neither for who is free nor for how tight it is.
func TestHoldsOfOtherSeats(t *testing.T) {
	x := seatTrain(2, 2, 6)
	for _, field := range holdBounds[:2] {
		for _, n := range []int{1, 4, 6, 9, 11, 9999} {
			list := holdsBy(1, 1, 0, 5, 1, 2, 0, 2, 2, 1, 3, 5, 2, 2, 2, 3)
			for i := range list {
				field.put(&list[i], n)
			}
			checkHolds(t, list, true)
			checkSeats(t, list, x, 2, 3, 4, 1, 1, 1, 1)
		}
	}
	outside := holdsBy(1, 3, 0, 5, 3, 1, 2, 3, 1, 99, 0, 2, 99, 1, 3, 5, 99, 99, 2, 3)
	checkSeats(t, outside, x, 2, 3, 4, 1, 1, 1, 1)
	checkSeats(t, append(outside, holdOf(2, 1, 0, 2)), x, 2, 3, 4, 1, 1, 2, 1)
}

func TestDaysOnWhichATrainDoesNotRun(t *testing.T) {
	for n := range 7 {
		x := seatTrain(1, 2, 4)
		x.Days = onlyOn(n)
		for day := 70; day < 77; day++ {
			h := holdOf(1, 1, 0, 3)
			h.Day = day
			checkAsk(t, []impl.Hold{h}, x, day, 1, 2)
			if day%7 != n {
				checkNoSeat(t, []impl.Hold{h}, x, day, 1, 2, -1)
			}
		}
	}
	x := seatTrain(1, 2, 4)
	for _, day := range []int{0, 1, 99998, 99999} {
		h := holdOf(1, 1, 0, 3)
		h.Day = day
		checkAsk(t, []impl.Hold{h}, x, day, 1, 2)
		if got := impl.FreeCount([]impl.Hold{h}, x, day, 1, 2); got != 1 {
			t.Errorf("on day %d there are %d free", day, got)
		}
	}
	for _, day := range noHoldDays {
		h := holdOf(1, 1, 0, 3)
		h.Day = day
		checkNoSeat(t, nil, x, day, 1, 2, -1)
		checkNoSeat(t, []impl.Hold{h}, x, day, 1, 2, -1)
	}
}

func TestStopsThatATrainDoesNotHave(t *testing.T) {
	for _, stops := range []int{2, 3, 5, 20} {
		x := seatTrain(2, 2, stops)
		numbers := append(slices.Clone(edgeNumbers), stops-2, stops-1, stops, stops+1, 19, 20)
		for _, list := range [][]impl.Hold{nil, holdsBy(1, 1, 0, 1), holdsBy(1, 1, 18, 19, 2, 1, 0, 19)} {
			for _, a := range numbers {
				for _, b := range numbers {
					checkAsk(t, list, x, 5, a, b)
				}
			}
		}
		checkNoSeat(t, nil, x, 5, 0, stops, -1)
		checkNoSeat(t, nil, x, 5, stops-1, stops, -1)
		checkNoSeat(t, nil, x, 5, -1, stops-1, -1)
		checkNoSeat(t, nil, x, 5, stops-1, 0, -1)
		for a := range stops {
			checkNoSeat(t, nil, x, 5, a, a, -1)
		}
		checkSeats(t, nil, x, 0, stops-1, 4, 1, 1, 1, 1)
	}
}

func TestTrainsThatAreNotRightHaveNoSeats(t *testing.T) {
	wrong := []impl.Train{
		{}, seatTrain(1, 0, 4), seatTrain(0, 1, 4), seatTrain(-1, -1, 4), seatTrain(21, 1, 4), seatTrain(1, 91, 4),
		seatTrain(math.MaxInt, math.MaxInt, 4), seatTrain(math.MinInt, 1, 4), seatTrain(1, 1, 1), seatTrain(1, 1, 0), seatTrain(1, 1, 21),
	}
	for _, id := range noHoldTrains {
		x := seatTrain(1, 2, 4)
		x.Id = id
		wrong = append(wrong, x)
	}
	for _, days := range []int{math.MinInt, -1, 0, 128, math.MaxInt} {
		x := seatTrain(1, 2, 4)
		x.Days = days
		wrong = append(wrong, x)
	}
	twice := seatTrain(1, 2, 4)
	twice.Stops[3].Station = twice.Stops[0].Station
	early := seatTrain(1, 2, 4)
	early.Stops[3].Arr = 0
	for _, x := range append(wrong, twice, early) {
		for _, list := range [][]impl.Hold{nil, holdsBy(1, 1, 0, 1), manyHolds(401)} {
			checkNoSeat(t, list, x, 5, 0, 1, -1)
			checkNoSeat(t, list, x, 5, 1, 2, -1)
		}
	}
}

func TestTheTightestSeatIsTaken(t *testing.T) {
	x := seatTrain(1, 3, 10)
	for _, n := range []struct {
		name string
		list []impl.Hold
		a, b int
		best int
	}{
		{"no holds at all", nil, 3, 6, 1},
		{"a hold that ends at a", holdsBy(1, 2, 1, 3), 3, 6, 2},
		{"a hold that begins at b", holdsBy(1, 3, 6, 7), 3, 6, 3},
		{"a hold that ends one stop ahead of a", holdsBy(1, 3, 0, 2), 3, 6, 3},
		{"a hold that begins one stop behind b", holdsBy(1, 2, 7, 9), 3, 6, 2},
		{"ends at a counts ahead of one stop ahead", holdsBy(1, 1, 0, 2, 1, 2, 0, 3), 3, 6, 2},
		{"begins at b counts ahead of one stop behind", holdsBy(1, 1, 7, 8, 1, 2, 6, 7), 3, 6, 2},
		{"both sides together", holdsBy(1, 1, 0, 3, 1, 2, 1, 2, 1, 2, 7, 8), 3, 6, 2},
		{"one side by more than both", holdsBy(1, 1, 0, 1, 1, 1, 8, 9, 1, 2, 6, 7), 3, 6, 2},
		{"both sides tight", holdsBy(1, 1, 0, 3, 1, 2, 6, 9, 1, 3, 2, 3, 1, 3, 6, 7), 3, 6, 3},
		{"the beginning is as good as a hold", holdsBy(1, 2, 7, 9), 0, 6, 2},
		{"the last stop is as good as a hold", holdsBy(1, 3, 1, 2), 3, 9, 3},
		{"all the way", nil, 0, 9, 1},
		{"held seats are not tight", holdsBy(1, 1, 0, 3, 1, 1, 5, 9, 1, 2, 0, 3), 3, 6, 2},
		{"several ahead: the last counts", holdsBy(1, 1, 0, 1, 1, 2, 0, 1, 1, 2, 1, 2, 1, 3, 0, 1), 3, 6, 2},
		{"several ahead, the last told first", holdsBy(1, 2, 2, 3, 1, 2, 1, 2, 1, 2, 0, 1, 1, 1, 1, 2), 3, 6, 2},
		{"several behind: the next counts", holdsBy(1, 1, 8, 9, 1, 2, 7, 8, 1, 2, 8, 9, 1, 3, 8, 9), 3, 6, 2},
		{"several behind, the next told last", holdsBy(1, 2, 8, 9, 1, 2, 7, 8, 1, 2, 6, 7, 1, 1, 7, 8), 3, 6, 2},
		{"equally tight ones", holdsBy(1, 2, 0, 2, 1, 3, 1, 2), 3, 6, 2},
		{"equally tight, ahead and behind", holdsBy(1, 3, 0, 3, 1, 2, 6, 8), 3, 6, 2},
		{"equally tight, by another share", holdsBy(1, 2, 0, 1, 1, 2, 7, 8, 1, 3, 0, 2, 1, 3, 8, 9), 3, 6, 2},
	} {
		t.Run(n.name, func(t *testing.T) {
			checkHolds(t, n.list, true)
			for _, list := range [][]impl.Hold{n.list, backwards(n.list)} {
				if coach, seat, ok := impl.BestSeat(list, x, 5, n.a, n.b); coach != 1 || seat != n.best || !ok {
					t.Errorf("the best is %d, %d, %t, want seat %d", coach, seat, ok, n.best)
				}
				checkAsk(t, list, x, 5, n.a, n.b)
			}
		})
	}
}

func TestSeatsThatAreEquallyTight(t *testing.T) {
	x := seatTrain(3, 3, 10)
	checkSeats(t, holdsBy(2, 3, 0, 3, 3, 1, 0, 3), x, 3, 6, 9, 1, 1, 2, 3)
	checkSeats(t, holdsBy(3, 1, 0, 3, 2, 3, 0, 3), x, 3, 6, 9, 1, 1, 2, 3)
	checkSeats(t, holdsBy(3, 2, 0, 3, 3, 1, 0, 3), x, 3, 6, 9, 1, 1, 3, 1)
	checkSeats(t, holdsBy(1, 3, 0, 3, 2, 1, 0, 3), x, 3, 6, 9, 1, 1, 1, 3)
	checkSeats(t, holdsBy(1, 3, 6, 9, 2, 1, 6, 8, 3, 1, 6, 7), x, 3, 6, 9, 1, 1, 1, 3)
	checkSeats(t, holdsBy(2, 2, 0, 2, 2, 2, 7, 9, 3, 3, 0, 2, 3, 3, 7, 8), x, 3, 6, 9, 1, 1, 2, 2)
	var all []impl.Hold
	for i := range 9 {
		all = append(all, holdOf(1+i/3, 1+i%3, 0, 3))
	}
	checkSeats(t, all, x, 3, 6, 9, 1, 1, 1, 1)
	checkSeats(t, all[4:], x, 3, 6, 9, 1, 1, 2, 2)
	checkSeats(t, append(all, holdOf(1, 1, 5, 6)), x, 3, 6, 8, 1, 2, 1, 2)
}

// A right list may have holds of stops behind the last one of a train: they
// take no seat from it, and behind its last stop no stops are counted.
func TestHoldsOfStopsThatATrainDoesNotHave(t *testing.T) {
	x := seatTrain(1, 3, 4)
	for a := 3; a < lastHoldStop; a++ {
		list := holdsBy(1, 2, a, a+1)
		checkHolds(t, list, true)
		checkSeats(t, list, x, 0, 3, 3, 1, 1, 1, 1)
		checkSeats(t, list, x, 1, 2, 3, 1, 1, 1, 1)
		checkSeats(t, append(list, holdOf(1, 3, 0, 1)), x, 1, 2, 3, 1, 1, 1, 3)
	}
	checkSeats(t, holdsBy(1, 1, 2, 19, 1, 2, 3, 19), x, 1, 2, 3, 1, 1, 1, 1)
	checkSeats(t, holdsBy(1, 1, 2, 19, 1, 2, 3, 19), x, 1, 3, 2, 1, 2, 1, 2)
}

func TestSeatsByListsThatAreNotRight(t *testing.T) {
	x := seatTrain(2, 2, 6)
	alike := holdsBy(1, 1, 1, 3, 1, 1, 1, 3, 1, 1, 2, 4, 2, 1, 0, 1)
	checkHolds(t, alike, false)
	checkSeats(t, alike, x, 2, 3, 3, 1, 2, 2, 1)
	checkSeats(t, alike, x, 4, 5, 4, 1, 1, 1, 1)
	noOrder := []impl.Hold{ordered(holdOf(1, 1, 0, 2), 0), ordered(holdOf(1, 2, 2, 3), -7)}
	checkHolds(t, noOrder, false)
	checkSeats(t, noOrder, x, 2, 4, 3, 1, 1, 1, 1)
	checkSeats(t, noOrder, x, 0, 2, 3, 1, 2, 1, 2)
	full := slices.Repeat(holdsBy(1, 1, 0, 5, 1, 2, 0, 2), 1000)
	checkHolds(t, full, false)
	checkSeats(t, full, x, 2, 3, 3, 1, 2, 1, 2)
	checkNoSeat(t, append(full, holdsBy(2, 1, 2, 3, 2, 2, 1, 5, 1, 2, 2, 3)...), x, 5, 2, 3, 0)
	empty := holdsBy(1, 1, 3, 3, 1, 2, 2, 2, 2, 1, 5, 1)
	checkHolds(t, empty, false)
	checkSeats(t, empty, x, 2, 4, 3, 1, 2, 1, 2)
	checkSeats(t, empty, x, 3, 4, 4, 1, 1, 1, 1)
}

// A hold whose stops are no stops meets what its words say; none is counted
// that lies outside of the train's way.
func TestSeatsByHoldsOfAnyStops(t *testing.T) {
	x := seatTrain(1, 3, 6)
	numbers := append(slices.Clone(edgeNumbers), 4, 5, 6, 19, 20)
	for _, a := range numbers {
		for _, b := range numbers {
			list := holdsBy(1, 2, a, b, 1, 3, 0, 1, 1, 1, b, a)
			for from := range 5 {
				checkAsk(t, list, x, 5, from, from+1)
				checkAsk(t, list, x, 5, from, 5)
			}
		}
	}
	checkSeats(t, holdsBy(1, 2, 0, math.MaxInt), x, 2, 3, 2, 1, 1, 1, 1)
	checkSeats(t, holdsBy(1, 2, math.MinInt, math.MaxInt), x, 2, 3, 2, 1, 1, 1, 1)
	checkSeats(t, holdsBy(1, 1, math.MaxInt, math.MinInt, 1, 2, 0, 1), x, 2, 3, 3, 1, 1, 1, 2)
	checkSeats(t, holdsBy(1, 1, math.MinInt, -1, 1, 3, 5, math.MaxInt), x, 2, 3, 3, 1, 1, 1, 1)
}

func TestTake(t *testing.T) {
	list := checkTake(t, nil, holdOf(1, 1, 0, 2), true)
	list = checkTake(t, list, ordered(holdOf(1, 1, 2, 4), 9), true)
	list = checkTake(t, list, holdOf(1, 1, 3, 5), false)
	list = checkTake(t, list, holdOf(1, 1, 0, 19), false)
	list = checkTake(t, list, holdOf(1, 2, 0, 19), true)
	list = checkTake(t, list, impl.Hold{}, false)
	if want := []impl.Hold{holdOf(1, 1, 0, 2), ordered(holdOf(1, 1, 2, 4), 9), holdOf(1, 2, 0, 19)}; !slices.Equal(list, want) {
		t.Errorf("the list is %+v, want %+v", list, want)
	}
	for i, h := range fullSeat() {
		checkTake(t, fullSeat()[:i], h, true)
		checkTake(t, fullSeat(), h, false)
	}
}

// What is not right stays so, whatever is taken: the list comes back whole.
func TestTakeOfAListThatIsNotRight(t *testing.T) {
	for _, list := range [][]impl.Hold{{{}}, holdsBy(1, 1, 0, 2, 1, 1, 1, 3), holdsBy(1, 1, 0, 20), manyHolds(401), manyHolds(5000)} {
		checkHolds(t, list, false)
		checkTake(t, list, holdOf(70, 70, 0, 1), false)
		checkTake(t, list, impl.Hold{}, false)
	}
}

func TestHoldsOfAnOrder(t *testing.T) {
	list := []impl.Hold{ordered(holdOf(1, 1, 0, 2), 3), ordered(holdOf(1, 2, 0, 2), 1), ordered(holdOf(1, 1, 2, 4), 3), ordered(holdOf(2, 1, 0, 2), 2), ordered(holdOf(1, 2, 2, 4), 1)}
	if got := impl.Held(list, 3); !slices.Equal(got, []impl.Hold{list[0], list[2]}) {
		t.Errorf("order 3 has %+v", got)
	}
	if got := impl.Release(list, 3); !slices.Equal(got, []impl.Hold{list[1], list[3], list[4]}) {
		t.Errorf("without order 3 there are %+v", got)
	}
	for _, order := range append(slices.Clone(edgeNumbers), 4, 5) {
		checkRelease(t, list, order)
		checkRelease(t, backwards(list), order)
		checkRelease(t, nil, order)
		checkRelease(t, []impl.Hold{}, order)
		checkRelease(t, manyHolds(400), order)
	}
	if got := impl.Release(list, 4); !slices.Equal(got, list) || len(impl.Held(list, 4)) != 0 {
		t.Errorf("without an order that has none there are %+v", got)
	}
}

func TestHoldsOfAnOrderInListsThatAreNotRight(t *testing.T) {
	var list []impl.Hold
	for _, n := range edgeNumbers {
		list = append(list, ordered(holdOf(1, 1, 0, 2), n), ordered(holdOf(n, n, n, n), 2), impl.Hold{Order: n})
	}
	checkHolds(t, list, false)
	for _, n := range edgeNumbers {
		checkRelease(t, list, n)
		checkRelease(t, slices.Repeat(list, 30), n)
		checkRelease(t, manyHolds(900), n)
	}
	checkRelease(t, []impl.Hold{{}}, 0)
	checkRelease(t, []impl.Hold{{}, {}}, 1)
}

// anyHolds may be right or not; few seats and stops make many of them meet.
func anyHolds(r *rand.Rand, n, seats, stops int) []impl.Hold {
	list := make([]impl.Hold, n)
	for i := range list {
		a := r.Intn(stops - 1)
		list[i] = impl.Hold{Train: 10, Day: 5 + r.Intn(2), Coach: 1 + r.Intn(2), Seat: 1 + r.Intn(seats), A: a, B: a + 1 + r.Intn(stops-1-a), Order: 1 + r.Intn(4)}
	}
	return list
}

// rightOnes takes one by one what can be taken.
func rightOnes(t *testing.T, all []impl.Hold) []impl.Hold {
	t.Helper()
	var list []impl.Hold
	for _, h := range all {
		list = checkTake(t, list, h, rightHolds(append(slices.Clone(list), h)))
	}
	checkHolds(t, list, true)
	return list
}

func TestListsOfAnyHolds(t *testing.T) {
	r := rand.New(rand.NewSource(13))
	met := map[bool]int{}
	for range 4000 {
		list := anyHolds(r, r.Intn(9), 3, 3+r.Intn(18))
		right := rightHolds(list)
		met[right]++
		checkHolds(t, list, right)
		pairs := 0
		for i := range list {
			for j := range i {
				checkMeet(t, list[i], list[j], wantMeet(list[i], list[j]))
				if impl.Meet(list[i], list[j]) {
					pairs++
				}
			}
		}
		if right != (pairs == 0) {
			t.Errorf("%+v is right: %t, and %d pairs meet", list, right, pairs)
		}
	}
	if met[true] < 500 || met[false] < 500 {
		t.Errorf("too few lists of a kind were met: %v", met)
	}
}

func TestSeatsAmongAnyHolds(t *testing.T) {
	r := rand.New(rand.NewSource(14))
	counts := map[int]int{}
	other := 0
	for range 3000 {
		stops := 3 + r.Intn(8)
		x := seatTrain(1+r.Intn(2), 1+r.Intn(3), stops)
		list := rightOnes(t, anyHolds(r, r.Intn(40), 3, stops+r.Intn(3)))
		a := r.Intn(stops - 1)
		b := a + 1 + r.Intn(stops-1-a)
		checkAsk(t, list, x, 5, a, b)
		checkAsk(t, backwards(list), x, 5, a, b)
		count := impl.FreeCount(list, x, 5, a, b)
		counts[count]++
		coach, seat, _ := impl.FreeSeat(list, x, 5, a, b)
		if bestCoach, bestSeat, _ := impl.BestSeat(list, x, 5, a, b); bestCoach != coach || bestSeat != seat {
			other++
		}
		checkGiven(t, list, x, a, b, count)
	}
	for n := range 7 {
		if counts[n] < 20 {
			t.Errorf("too few trains with %d free seats were met: %v", n, counts)
		}
	}
	if other < 200 {
		t.Errorf("only %d times the tightest was not the first", other)
	}
}

// checkGiven takes each seat that is given, and gives it back.
func checkGiven(t *testing.T, list []impl.Hold, x impl.Train, a, b, count int) {
	t.Helper()
	for _, ask := range []func([]impl.Hold, impl.Train, int, int, int) (int, int, bool){impl.FreeSeat, impl.BestSeat} {
		coach, seat, ok := ask(list, x, 5, a, b)
		if ok != (count > 0) {
			t.Fatalf("a seat is given: %t, but %d are free", ok, count)
		}
		if !ok {
			continue
		}
		h := ordered(holdOf(coach, seat, a, b), 99)
		if !within(coach, 1, x.Coaches) || !within(seat, 1, x.Seats) || slices.ContainsFunc(list, func(other impl.Hold) bool { return impl.Meet(h, other) }) {
			t.Errorf("coach %d seat %d is given of %+v by %+v", coach, seat, x, list)
		}
		longer := checkTake(t, list, h, true)
		if left := impl.FreeCount(longer, x, 5, a, b); left != count-1 || !impl.HoldsOk(longer) {
			t.Errorf("of %d free seats %d are left: %+v", count, left, longer)
		}
		checkTake(t, longer, h, false)
		back := impl.Release(longer, 99)
		if !slices.Equal(back, list) || impl.FreeCount(back, x, 5, a, b) != count || !slices.Equal(impl.Held(longer, 99), []impl.Hold{h}) {
			t.Errorf("given back, %+v is left of %+v", back, list)
		}
	}
}

// A train is filled up by BestSeat, then given back order by order.
func TestATrainIsFilledUpAndGivenBack(t *testing.T) {
	r := rand.New(rand.NewSource(15))
	for range 30 {
		x := seatTrain(1+r.Intn(2), 1+r.Intn(4), 2+r.Intn(9))
		var list []impl.Hold
		for order := 1; order <= 120; order++ {
			a := r.Intn(len(x.Stops) - 1)
			b := a + 1 + r.Intn(len(x.Stops)-1-a)
			checkAsk(t, list, x, 5, a, b)
			if coach, seat, ok := impl.BestSeat(list, x, 5, a, b); ok {
				list = checkTake(t, list, ordered(holdOf(coach, seat, a, b), order), true)
			}
		}
		for order := 120; order >= 1; order-- {
			checkRelease(t, list, order)
			list = impl.Release(list, order)
			checkHolds(t, list, true)
		}
		checkSeats(t, list, x, 0, len(x.Stops)-1, x.Coaches*x.Seats, 1, 1, 1, 1)
	}
}

func TestWhatIsHeldAndWhatIsLeftAreAll(t *testing.T) {
	r := rand.New(rand.NewSource(16))
	for range 500 {
		list := anyHolds(r, r.Intn(30), 3, 10)
		for order := range 6 {
			checkRelease(t, list, order)
			held, left := impl.Held(list, order), impl.Release(list, order)
			if len(held)+len(left) != len(list) || len(impl.Held(left, order)) != 0 || len(impl.Release(held, order)) != 0 {
				t.Errorf("of %+v order %d has %+v, and %+v is left", list, order, held, left)
			}
		}
	}
}

func TestSeatsWriteIntoNoArgument(t *testing.T) {
	list := slices.Concat(holdsBy(1, 2, 0, 1, 1, 1, 1, 2, 1, 2, 1, 2), manyHolds(9), holdsBy(1, 1, 0, 2))
	kept := slices.Clone(list)
	lines := roomy([]impl.Train{threeStops()})
	keptLines := wholeRoom(lines)
	for n := range len(list) + 1 {
		impl.HoldsOk(list[:n])
		for a := range 3 {
			for b := range 3 {
				impl.FreeSeat(list[:n], lines[0], 5, a, b)
				impl.FreeCount(list[:n], lines[0], 5, a, b)
				impl.BestSeat(list[:n], lines[0], 5, a, b)
				longer, _ := impl.Take(list[:n], holdOf(1, 1+n%3, a, b))
				clear(append(longer, impl.Hold{Order: 5}))
			}
		}
		for order := range 8 {
			clear(append(impl.Release(list[:n], order), impl.Hold{Order: 5}))
			clear(append(impl.Held(list[:n], order), impl.Hold{Order: 5}))
		}
	}
	if !slices.Equal(list, kept) || !slices.EqualFunc(wholeRoom(lines), keptLines, sameTrain) {
		t.Errorf("the holds are now %+v, the train %+v", list, lines)
	}
}

func TestSeatsAnswerNewMemory(t *testing.T) {
	list := make([]impl.Hold, 0, 9)
	list = append(list, holdsBy(1, 1, 0, 2, 1, 2, 0, 2, 1, 3, 0, 2)...)
	kept := slices.Clone(list)
	taken, _ := impl.Take(list, holdOf(2, 1, 0, 2))
	again, _ := impl.Take(list, holdOf(2, 2, 0, 2))
	refused, _ := impl.Take(list, holdOf(1, 1, 0, 2))
	held, left := impl.Held(list, 1), impl.Release(list, 2)
	if !slices.Equal(taken, append(slices.Clone(kept), holdOf(2, 1, 0, 2))) || !slices.Equal(again, append(slices.Clone(kept), holdOf(2, 2, 0, 2))) {
		t.Fatalf("taken one by one of one list: %+v and %+v", taken, again)
	}
	for _, answer := range [][]impl.Hold{taken, again, refused, held, left} {
		if len(answer) < len(kept) || !slices.Equal(answer[:len(kept)], kept) {
			t.Errorf("told %+v, of %+v", answer, kept)
		}
		clear(answer)
		if !slices.Equal(list, kept) {
			t.Errorf("the holds are now %+v", list)
		}
	}
}

func TestSeatsAnswerAtAnyArguments(t *testing.T) {
	x := seatTrain(1, 2, 4)
	for _, a := range edgeNumbers {
		for _, b := range edgeNumbers {
			h := impl.Hold{Train: a, Day: b, Coach: a, Seat: b, A: a, B: b, Order: a}
			list := []impl.Hold{h, holdOf(1, 1, a, b), ordered(holdOf(1, 2, b, a), b)}
			for n := range len(list) + 1 {
				checkHolds(t, list[:n], rightHolds(list[:n]))
				checkTake(t, list[:n], h, rightHolds(append(slices.Clone(list[:n]), h)))
				checkRelease(t, list[:n], a)
				checkAsk(t, list[:n], x, 5, a, b)
				checkAsk(t, list[:n], x, a, 1, 2)
				checkAsk(t, list[:n], seated(x, a, b), 5, 1, 2)
				checkAsk(t, list[:n], impl.Train{Id: a, Days: b, Coaches: a, Seats: b, Stops: x.Stops}, b, a, b)
			}
			checkMeet(t, h, list[1], wantMeet(h, list[1]))
		}
	}
}
