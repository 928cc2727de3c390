package tests

import (
	"cmp"
	"math"
	"math/rand"
	"slices"
	"testing"

	"loop.example/g00211/impl"
)

const (
	daily    = 127
	askedDay = 14
)

// trainBy takes a station, an Arr and a Dep for each stop.
func trainBy(id, days int, numbers ...int) impl.Train {
	x := impl.Train{Id: id, Days: days}
	for n := range slices.Chunk(numbers, 3) {
		x.Stops = append(x.Stops, impl.Stop{Station: n[0], Arr: n[1], Dep: n[2]})
	}
	return x
}

// shuttle is a train from one station to another without a stop between.
func shuttle(id, days, from, dep, to, arr int) impl.Train {
	return trainBy(id, days, from, dep, dep, to, arr, arr)
}

func onlyOn(day int) int {
	return 1 << bigMod(bigOf(day), 7)
}

func seated(x impl.Train, coaches, seats int) impl.Train {
	x.Coaches, x.Seats = coaches, seats
	return x
}

// longTrain has so many stops, at 101, 102 ..
func longTrain(id, stops int) impl.Train {
	x := impl.Train{Id: id, Days: daily}
	for i := range stops {
		x.Stops = append(x.Stops, impl.Stop{Station: 101 + i, Arr: 10 * i, Dep: 10*i + 4})
	}
	return x
}

func threeStops() impl.Train {
	return seated(trainBy(10, daily, 1, 60, 60, 2, 100, 105, 3, 200, 200), 1, 2)
}

func smallLines() []impl.Train {
	return []impl.Train{threeStops(), shuttle(20, daily, 3, 230, 4, 300)}
}

func manyTrains(n int) []impl.Train {
	list := make([]impl.Train, n)
	for i := range list {
		list[i] = shuttle(i+1, daily, 1, i, 2, 100+i)
	}
	return list
}

func copiedTrain(x impl.Train) impl.Train {
	x.Stops = slices.Clone(x.Stops)
	return x
}

func copiedLines(list []impl.Train) []impl.Train {
	var copied []impl.Train
	for _, x := range list {
		copied = append(copied, copiedTrain(x))
	}
	return copied
}

func sameTrain(a, b impl.Train) bool {
	return a.Id == b.Id && a.Days == b.Days && a.Coaches == b.Coaches && a.Seats == b.Seats && slices.Equal(a.Stops, b.Stops)
}

func rightTrain(x impl.Train) bool {
	noSeats := x.Coaches == 0 && x.Seats == 0
	seats := within(x.Coaches, 1, 20) && within(x.Seats, 1, 90)
	if !within(x.Id, 1, 9999) || !within(x.Days, 1, 127) || !noSeats && !seats || !within(len(x.Stops), 2, 20) {
		return false
	}
	met := map[int]int{}
	earliest := 0
	for _, s := range x.Stops {
		met[s.Station]++
		if !within(s.Station, 1, 9999) || met[s.Station] > 1 || !within(s.Arr, earliest, 4000) || !within(s.Dep, s.Arr, 4000) {
			return false
		}
		earliest = s.Dep + 1
	}
	return true
}

func wantRuns(x impl.Train, day int) bool {
	if !rightTrain(x) || !within(day, 0, 99999) {
		return false
	}
	days := x.Days
	for range day - day/7*7 {
		days /= 2
	}
	return days%2 == 1
}

func wantCut(x impl.Train, from, to int) (int, int, bool) {
	if !rightTrain(x) {
		return 0, 0, false
	}
	for a := range x.Stops {
		for b := range a {
			if x.Stops[b].Station == from && x.Stops[a].Station == to {
				return b, a, true
			}
		}
	}
	return 0, 0, false
}

func rightLines(list []impl.Train) bool {
	if len(list) > 40 {
		return false
	}
	least := 1
	for _, x := range list {
		if !rightTrain(x) || x.Id < least {
			return false
		}
		least = x.Id + 1
	}
	return true
}

// timed is a ride with its minutes behind the beginning of day 0.
type timed struct {
	ride     impl.Ride
	dep, arr int
}

func (a timed) isFollowedBy(b timed) bool {
	return a.ride.To == b.ride.From && b.dep-a.arr >= 3
}

func timedRide(list []impl.Train, r impl.Ride) (timed, bool) {
	for _, x := range list {
		a, b, ok := wantCut(x, r.From, r.To)
		if x.Id == r.Train && ok && wantRuns(x, r.Day) {
			return timed{ride: r, dep: 1440*r.Day + x.Stops[a].Dep, arr: 1440*r.Day + x.Stops[b].Arr}, true
		}
	}
	return timed{}, false
}

func rightRides(list []impl.Train, rides []impl.Ride) bool {
	if !rightLines(list) || !within(len(rides), 1, 6) {
		return false
	}
	var all []timed
	for _, r := range rides {
		x, ok := timedRide(list, r)
		if !ok || len(all) > 0 && !all[len(all)-1].isFollowedBy(x) {
			return false
		}
		all = append(all, x)
	}
	return true
}

// ridesAround is every ride of every train on the days that may be asked.
func ridesAround(list []impl.Train, day int) []timed {
	var all []timed
	for _, x := range list {
		for d := day - 2; d <= day+1; d++ {
			for a := range x.Stops {
				for b := range x.Stops {
					r := impl.Ride{Train: x.Id, Day: d, From: x.Stops[a].Station, To: x.Stops[b].Station}
					if one, ok := timedRide(list, r); ok {
						all = append(all, one)
					}
				}
			}
		}
	}
	return all
}

func compareRides(a, b []impl.Ride) int {
	return slices.CompareFunc(a, b, func(x, y impl.Ride) int {
		return slices.Compare([]int{x.Train, x.Day, x.From, x.To}, []int{y.Train, y.Day, y.From, y.To})
	})
}

// oneRideMore tells for each ride the first of the lists that end with it, of
// lists (by their last ride) with one ride fewer.
func oneRideMore(all []timed, lists [][]impl.Ride) [][]impl.Ride {
	more := make([][]impl.Ride, len(all))
	for i, x := range all {
		for j, y := range all {
			if lists[j] == nil || !y.isFollowedBy(x) {
				continue
			}
			if rides := append(slices.Clone(lists[j]), x.ride); more[i] == nil || compareRides(rides, more[i]) < 0 {
				more[i] = rides
			}
		}
	}
	return more
}

// wantEarliest keeps, for each count of rides and each last ride, the first of
// all lists there are, however late they arrive.
func wantEarliest(list []impl.Train, from, to, day, minute int) ([]impl.Ride, int, bool) {
	if !rightLines(list) || from == to || !within(day, 0, 90000) || !within(minute, 0, 1439) {
		return nil, 0, false
	}
	all := ridesAround(list, day)
	lists := make([][]impl.Ride, len(all))
	for i, x := range all {
		if x.ride.From == from && x.dep >= 1440*day+minute {
			lists[i] = []impl.Ride{x.ride}
		}
	}
	var best []impl.Ride
	at := 0
	for range 6 {
		for i, x := range all {
			if lists[i] == nil || x.ride.To != to {
				continue
			}
			if best == nil || cmp.Or(cmp.Compare(x.arr, at), cmp.Compare(len(lists[i]), len(best)), compareRides(lists[i], best)) < 0 {
				best, at = lists[i], x.arr
			}
		}
		lists = oneRideMore(all, lists)
	}
	return best, at, best != nil
}

func checkTrain(t *testing.T, x impl.Train, want bool) {
	t.Helper()
	if right := rightTrain(x); right != want {
		t.Fatalf("the test itself takes %+v for right: %t", x, right)
	}
	if got := impl.TrainOk(x); got != want {
		t.Errorf("TrainOk(%+v) = %t", x, got)
	}
	if got := impl.LinesOk([]impl.Train{x}); got != want {
		t.Errorf("LinesOk of %+v alone = %t", x, got)
	}
	for day := range 7 {
		checkRuns(t, x, day)
	}
	for _, a := range x.Stops {
		for _, b := range x.Stops {
			checkCut(t, x, a.Station, b.Station)
		}
	}
}

func checkRuns(t *testing.T, x impl.Train, day int) {
	t.Helper()
	if got, want := impl.Runs(x, day), wantRuns(x, day); got != want {
		t.Errorf("Runs(%+v, %d) = %t", x, day, got)
	}
}

func checkCut(t *testing.T, x impl.Train, from, to int) {
	t.Helper()
	a, b, want := wantCut(x, from, to)
	if gotA, gotB, ok := impl.Cut(x, from, to); gotA != a || gotB != b || ok != want {
		t.Errorf("Cut(%+v, %d, %d) = %d, %d, %t, want %d, %d, %t", x, from, to, gotA, gotB, ok, a, b, want)
	}
	minutes := -1
	if want {
		minutes = x.Stops[b].Arr - x.Stops[a].Dep
	}
	if got := impl.Takes(x, from, to); got != minutes {
		t.Errorf("Takes(%+v, %d, %d) = %d, want %d", x, from, to, got, minutes)
	}
}

func checkRides(t *testing.T, list []impl.Train, want bool, rides ...impl.Ride) {
	t.Helper()
	if right := rightRides(list, rides); right != want {
		t.Fatalf("the test itself takes %+v for right: %t", rides, right)
	}
	if got := impl.RidesOk(list, rides); got != want {
		t.Errorf("RidesOk(%+v, %+v) = %t", list, rides, got)
	}
}

// checkEarliest answers how many rides there are.
func checkEarliest(t *testing.T, list []impl.Train, from, to, day, minute int) int {
	t.Helper()
	want, at, will := wantEarliest(list, from, to, day, minute)
	got, there, ok := impl.Earliest(list, from, to, day, minute)
	if !slices.Equal(got, want) || there != at || ok != will {
		t.Errorf("Earliest(%+v, %d, %d, %d, %d) = %+v, %d, %t, want %+v, %d, %t", list, from, to, day, minute, got, there, ok, want, at, will)
	}
	return len(got)
}

func checkTold(t *testing.T, list []impl.Train, from, to, day, minute, at int, rides ...impl.Ride) {
	t.Helper()
	got, there, ok := impl.Earliest(list, from, to, day, minute)
	if !slices.Equal(got, rides) || there != at || !ok {
		t.Errorf("Earliest(%+v, %d, %d, %d, %d) = %+v, %d, %t, want %+v, %d", list, from, to, day, minute, got, there, ok, rides, at)
	}
	checkEarliest(t, list, from, to, day, minute)
}

func checkNoWay(t *testing.T, list []impl.Train, from, to, day, minute int) {
	t.Helper()
	got, there, ok := impl.Earliest(list, from, to, day, minute)
	if len(got) != 0 || there != 0 || ok {
		t.Errorf("Earliest(%+v, %d, %d, %d, %d) = %+v, %d, %t", list, from, to, day, minute, got, there, ok)
	}
	checkEarliest(t, list, from, to, day, minute)
}

func TestTrainConstants(t *testing.T) {
	if impl.MaxTrains != 40 || impl.MaxStops != 20 {
		t.Errorf("MaxTrains is %d, MaxStops %d", impl.MaxTrains, impl.MaxStops)
	}
}

var trainNumbers = []struct {
	name        string
	least, most int
	of          func(*impl.Train) *int
}{
	{"Id", 1, 9999, func(x *impl.Train) *int { return &x.Id }},
	{"Days", 1, 127, func(x *impl.Train) *int { return &x.Days }},
	{"Coaches", 1, 20, func(x *impl.Train) *int { return &x.Coaches }},
	{"Seats", 1, 90, func(x *impl.Train) *int { return &x.Seats }},
	{"the first station", 1, 9999, func(x *impl.Train) *int { return &x.Stops[0].Station }},
	{"the second station", 1, 9999, func(x *impl.Train) *int { return &x.Stops[1].Station }},
	{"the last station", 1, 9999, func(x *impl.Train) *int { return &x.Stops[2].Station }},
	{"the first Arr", 0, 60, func(x *impl.Train) *int { return &x.Stops[0].Arr }},
	{"the first Dep", 60, 99, func(x *impl.Train) *int { return &x.Stops[0].Dep }},
	{"the second Arr", 61, 105, func(x *impl.Train) *int { return &x.Stops[1].Arr }},
	{"the second Dep", 100, 199, func(x *impl.Train) *int { return &x.Stops[1].Dep }},
	{"the last Arr", 106, 200, func(x *impl.Train) *int { return &x.Stops[2].Arr }},
	{"the last Dep", 200, 4000, func(x *impl.Train) *int { return &x.Stops[2].Dep }},
}

func TestNumbersOfATrainAtTheirBounds(t *testing.T) {
	stations := func(x impl.Train) impl.Train {
		for i := range x.Stops {
			x.Stops[i].Station += 5000
		}
		return x
	}
	for _, n := range trainNumbers {
		for _, value := range append(slices.Clone(edgeNumbers), n.least-1, n.least, n.least+1, n.most-1, n.most, n.most+1) {
			x := stations(threeStops())
			*n.of(&x) = value
			if right := within(value, n.least, n.most); rightTrain(x) != right {
				t.Fatalf("the test itself is wrong about %s of %d", n.name, value)
			}
			checkTrain(t, x, within(value, n.least, n.most))
		}
	}
}

func TestMinutesOfATrainAtTheirBounds(t *testing.T) {
	checkTrain(t, trainBy(1, 1, 1, 0, 0, 2, 1, 1), true)
	checkTrain(t, trainBy(1, 1, 1, 0, 3999, 2, 4000, 4000), true)
	checkTrain(t, trainBy(1, 1, 1, 3999, 3999, 2, 4000, 4000), true)
	checkTrain(t, trainBy(1, 1, 1, -1, 0, 2, 1, 1), false)
	checkTrain(t, trainBy(1, 1, 1, -1, -1, 2, 1, 1), false)
	checkTrain(t, trainBy(1, 1, 1, -2, -2, 2, -1, -1), false)
	checkTrain(t, trainBy(1, 1, 1, 0, 0, 2, 4000, 4001), false)
	checkTrain(t, trainBy(1, 1, 1, 0, 0, 2, 4001, 4001), false)
	checkTrain(t, trainBy(1, 1, 1, 0, 4001, 2, 4002, 4002), false)
	checkTrain(t, trainBy(1, 1, 1, 4000, 4000, 2, 4001, 4001), false)
}

func TestCoachesAndSeatsOfATrain(t *testing.T) {
	checkTrain(t, seated(threeStops(), 0, 0), true)
	checkTrain(t, seated(threeStops(), 20, 90), true)
	checkTrain(t, seated(threeStops(), 1, 1), true)
	checkTrain(t, seated(threeStops(), 1, 0), false)
	checkTrain(t, seated(threeStops(), 0, 1), false)
	numbers := append(slices.Clone(edgeNumbers), -20, 19, 20, 21, 89, 90, 91, 99)
	for _, coaches := range numbers {
		for _, seats := range numbers {
			none := coaches == 0 && seats == 0
			checkTrain(t, seated(threeStops(), coaches, seats), none || within(coaches, 1, 20) && within(seats, 1, 90))
		}
	}
}

func TestStopsAreCounted(t *testing.T) {
	for n := range 45 {
		checkTrain(t, longTrain(1, n), within(n, 2, 20))
	}
	checkTrain(t, impl.Train{}, false)
	checkTrain(t, impl.Train{Id: 1, Days: 1, Stops: []impl.Stop{}}, false)
	if impl.TrainOk(longTrain(1, 100000)) {
		t.Error("a train of 100000 stops is TrainOk")
	}
}

func TestATrainSetsOutBehindItsArrival(t *testing.T) {
	for i := range impl.MaxStops {
		for shift, want := range map[int]bool{-1: false, 0: true, 1: true} {
			x := longTrain(1, impl.MaxStops)
			x.Stops[i].Arr++
			x.Stops[i].Dep = x.Stops[i].Arr + shift
			checkTrain(t, x, want)
		}
	}
}

func TestATrainArrivesBehindItsLastStop(t *testing.T) {
	for i := 1; i < impl.MaxStops; i++ {
		for shift, want := range map[int]bool{-1: false, 0: false, 1: true, 2: true} {
			x := longTrain(1, impl.MaxStops)
			x.Stops[i].Arr = x.Stops[i-1].Dep + shift
			checkTrain(t, x, want)
		}
	}
}

func TestEachStopIsLookedAt(t *testing.T) {
	for i := range impl.MaxStops {
		for _, station := range []int{math.MinInt, -1, 0, 10000, math.MaxInt} {
			x := longTrain(1, impl.MaxStops)
			x.Stops[i].Station = station
			checkTrain(t, x, false)
		}
		for j := range impl.MaxStops {
			x := longTrain(1, impl.MaxStops)
			x.Stops[i].Station = x.Stops[j].Station
			checkTrain(t, x, i == j)
		}
	}
}

func TestATrainRunsJustOnTheDaysThatItTells(t *testing.T) {
	x := threeStops()
	for days := 1; days <= 127; days++ {
		x.Days = days
		for _, first := range []int{0, 7, 90000, 99986, 99993} {
			for n := range 7 {
				if got, want := impl.Runs(x, first+n), days&(1<<((first+n)%7)) != 0; got != want {
					t.Errorf("Runs of Days %d on %d = %t", days, first+n, got)
				}
			}
		}
		for _, day := range append(slices.Clone(edgeNumbers), -14, -7, -6, -1, 0, 99999, 100000, 100001, 100006) {
			checkRuns(t, x, day)
		}
	}
}

func TestDaysOutsideTheirBounds(t *testing.T) {
	for day, want := range map[int]bool{math.MinInt: false, -7: false, -1: false, 0: true, 1: true, 99998: true, 99999: true, 100000: false, math.MaxInt: false} {
		if got := impl.Runs(threeStops(), day); got != want {
			t.Errorf("Runs of a daily train on %d = %t", day, got)
		}
		checkRides(t, smallLines(), want, impl.Ride{Train: 10, Day: day, From: 1, To: 2})
	}
}

func TestATrainTakesSomeTimeAndCannotBeAskedBack(t *testing.T) {
	for _, x := range []impl.Train{threeStops(), longTrain(7, impl.MaxStops), shuttle(1, 1, 9999, 0, 1, 1), shuttle(1, 1, 1, 0, 9999, 4000)} {
		for i, a := range x.Stops {
			for j, b := range x.Stops {
				first, second, ok := impl.Cut(x, a.Station, b.Station)
				_, _, back := impl.Cut(x, b.Station, a.Station)
				if ok != (i < j) || back != (j < i) || ok && (first != i || second != j) {
					t.Errorf("Cut from stop %d to stop %d of %+v = %d, %d, %t, and back %t", i, j, x, first, second, ok, back)
				}
				if takes := impl.Takes(x, a.Station, b.Station); ok && takes <= 0 || !ok && takes != -1 {
					t.Errorf("from stop %d to stop %d of %+v it takes %d", i, j, x, takes)
				}
				checkCut(t, x, a.Station, b.Station)
			}
			for _, other := range append(slices.Clone(edgeNumbers), -a.Station, a.Station+1000) {
				checkCut(t, x, a.Station, other)
				checkCut(t, x, other, a.Station)
			}
		}
	}
	if impl.Takes(threeStops(), 1, 2) != 40 || impl.Takes(threeStops(), 2, 3) != 95 || impl.Takes(threeStops(), 1, 3) != 140 {
		t.Error("minutes between the stops of a train")
	}
}

func TestNothingIsAskedOfATrainThatIsNotRight(t *testing.T) {
	wrong := threeStops()
	wrong.Days = 128
	checkCut(t, wrong, 1, 3)
	checkRuns(t, wrong, 0)
	noughts := trainBy(1, 127, 0, 0, 0, 1, 5, 5)
	checkCut(t, noughts, 0, 1)
	twice := trainBy(1, 127, 1, 0, 0, 2, 5, 5, 1, 9, 9)
	checkCut(t, twice, 1, 2)
	checkCut(t, twice, 2, 1)
	checkCut(t, impl.Train{}, 0, 0)
}

func checkLines(t *testing.T, list []impl.Train, want bool) {
	t.Helper()
	if right := rightLines(list); right != want {
		t.Fatalf("the test itself takes %+v for right: %t", list, right)
	}
	if got := impl.LinesOk(list); got != want {
		t.Errorf("LinesOk(%+v) = %t", list, got)
	}
	if got, _, ok := impl.Earliest(list, 1, 2, askedDay, 0); !want && (ok || len(got) != 0) {
		t.Errorf("Earliest of %+v = %+v", list, got)
	}
	if !want && impl.RidesOk(list, []impl.Ride{{Train: 1, Day: askedDay, From: 1, To: 2}}) {
		t.Errorf("rides of %+v are RidesOk", list)
	}
}

func TestTrainsAreCounted(t *testing.T) {
	checkLines(t, nil, true)
	checkLines(t, []impl.Train{}, true)
	for n := range 50 {
		checkLines(t, manyTrains(n), n <= 40)
	}
	checkLines(t, manyTrains(9999), false)
}

func TestTrainsStandByTheirIds(t *testing.T) {
	for i := range impl.MaxTrains {
		for j := range impl.MaxTrains {
			list := manyTrains(impl.MaxTrains)
			list[i], list[j] = list[j], list[i]
			checkLines(t, list, i == j)
			list = manyTrains(impl.MaxTrains)
			list[i].Id = list[j].Id
			checkLines(t, list, i == j)
		}
	}
	checkLines(t, []impl.Train{shuttle(1, 1, 1, 0, 2, 1), shuttle(9999, 1, 1, 0, 2, 1)}, true)
}

func TestEachTrainIsLookedAt(t *testing.T) {
	for i := range impl.MaxTrains {
		for _, n := range trainNumbers[:7] {
			list := manyTrains(impl.MaxTrains)
			list[i] = threeStops()
			list[i].Id = i + 1
			checkLines(t, list, true)
			*n.of(&list[i]) = -1
			checkLines(t, list, false)
		}
	}
}

func checkFound(t *testing.T, list []impl.Train, id int, want impl.Train, will bool) {
	t.Helper()
	if got, ok := impl.FindTrain(list, id); !sameTrain(got, want) || ok != will {
		t.Errorf("FindTrain(%+v, %d) = %+v, %t, want %+v, %t", list, id, got, ok, want, will)
	}
}

func TestFindTrain(t *testing.T) {
	for _, list := range [][]impl.Train{nil, smallLines(), manyTrains(1), manyTrains(40)} {
		ids := map[int]impl.Train{}
		for _, x := range list {
			ids[x.Id] = x
		}
		for _, id := range append(slices.Clone(edgeNumbers), 10, 15, 20, 39, 40, 41, 9999, 10000) {
			want, will := ids[id]
			checkFound(t, list, id, want, will)
		}
		for id, x := range ids {
			checkFound(t, list, id, x, true)
		}
	}
}

func TestFindTrainInListsThatAreNotRight(t *testing.T) {
	turned := manyTrains(5)
	slices.Reverse(turned)
	for _, x := range turned {
		checkFound(t, turned, x.Id, x, true)
	}
	checkFound(t, turned, 6, impl.Train{}, false)
	twice := []impl.Train{threeStops(), shuttle(10, 1, 7, 0, 8, 1)}
	checkFound(t, twice, 10, threeStops(), true)
	checkFound(t, manyTrains(41), 41, manyTrains(41)[40], true)
}

// chain is trains from station 1 on, each from one to the next, with so many
// minutes to change.
func chain(trains, minutes int) []impl.Train {
	var list []impl.Train
	for i := range trains {
		dep := i * (10 + minutes)
		list = append(list, shuttle(i+1, daily, i+1, dep, i+2, dep+10))
	}
	return list
}

func ridesOfChain(rides, day int) []impl.Ride {
	var list []impl.Ride
	for i := range rides {
		list = append(list, impl.Ride{Train: i + 1, Day: day, From: i + 1, To: i + 2})
	}
	return list
}

func TestRidesAreCounted(t *testing.T) {
	for n := range 10 {
		for _, day := range []int{0, askedDay, 99999} {
			checkRides(t, chain(9, 3), within(n, 1, 6), ridesOfChain(n, day)...)
		}
	}
	checkRides(t, nil, false)
	checkRides(t, nil, false, ridesOfChain(1, 0)...)
	checkRides(t, chain(1, 3), false, slices.Repeat(ridesOfChain(1, 0), 100000)...)
}

func TestMinutesToChange(t *testing.T) {
	for minutes, want := range map[int]bool{0: false, 1: false, 2: false, 3: true, 4: true, 60: true} {
		for n := 2; n <= 6; n++ {
			checkRides(t, chain(n, minutes), want, ridesOfChain(n, askedDay)...)
		}
		if got, there, ok := impl.Earliest(chain(2, minutes), 1, 3, askedDay, 0); !ok || (there == 1440*askedDay+20+minutes) != want {
			t.Errorf("with %d minutes to change Earliest = %+v, %d", minutes, got, there)
		}
		checkEarliest(t, chain(3, minutes), 1, 4, askedDay, 0)
	}
}

func TestOneChangeThatIsTooShortIsEnough(t *testing.T) {
	for late := 1; late < impl.MaxLegs; late++ {
		list := chain(impl.MaxLegs, 3)
		list[late-1].Stops[1].Arr++
		list[late-1].Stops[1].Dep++
		checkRides(t, list, false, ridesOfChain(impl.MaxLegs, askedDay)...)
		checkRides(t, list, true, ridesOfChain(late, askedDay)...)
		checkEarliest(t, list, 1, impl.MaxLegs+1, askedDay, 0)
	}
}

func TestMinutesToChangeOverMidnight(t *testing.T) {
	for _, arr := range []int{1437, 1438, 1439, 1440, 1441, 2879, 2880} {
		for minutes, want := range map[int]bool{-1: false, 0: false, 2: false, 3: true, 4: true} {
			for ahead := range 3 {
				dep := arr + minutes - 1440*(ahead-1)
				if !within(dep, 0, 3999) {
					continue
				}
				list := []impl.Train{shuttle(1, onlyOn(askedDay), 1, 1000, 2, arr), shuttle(2, onlyOn(askedDay+ahead-1), 2, dep, 3, dep+1)}
				second := impl.Ride{Train: 2, Day: askedDay + ahead - 1, From: 2, To: 3}
				checkRides(t, list, want, impl.Ride{Train: 1, Day: askedDay, From: 1, To: 2}, second)
				if n := checkEarliest(t, list, 1, 3, askedDay, 1000); want != (n == 2) {
					t.Errorf("from %d with %d minutes, by a train of %d days behind, there are %d rides", arr, minutes, ahead-1, n)
				}
			}
		}
	}
}

func TestRidesThatCannotBeTaken(t *testing.T) {
	list := append(smallLines(), shuttle(30, onlyOn(5), 4, 400, 1, 500))
	right := []impl.Ride{{Train: 10, Day: 5, From: 1, To: 3}, {Train: 20, Day: 5, From: 3, To: 4}, {Train: 30, Day: 5, From: 4, To: 1}}
	checkRides(t, list, true, right...)
	for i := range right {
		for _, wrong := range []impl.Ride{
			{}, {Train: 15, Day: right[i].Day, From: right[i].From, To: right[i].To},
			{Train: right[i].Train, Day: 4, From: right[i].From, To: right[i].To},
			{Train: right[i].Train, Day: right[i].Day - 7, From: right[i].From, To: right[i].To},
			{Train: right[i].Train, Day: right[i].Day, From: right[i].To, To: right[i].From},
			{Train: right[i].Train, Day: right[i].Day, From: right[i].From, To: right[i].From},
			{Train: right[i].Train, Day: right[i].Day, From: right[i].To, To: right[i].To},
			{Train: right[i].Train, Day: right[i].Day, From: right[i].From, To: 9},
			{Train: right[i].Train, Day: right[i].Day, From: 9, To: right[i].To},
			{Train: right[i].Train, Day: right[i].Day, To: right[i].To},
			{Train: right[i].Train, Day: right[i].Day, From: right[i].From},
		} {
			rides := slices.Clone(right)
			rides[i] = wrong
			want := i == 0 && wrong.Train == 10 && wrong.Day == 4
			checkRides(t, list, want, rides...)
		}
	}
	checkRides(t, list, false, right[1], right[0])
	checkRides(t, list, false, right[0], right[2])
	checkRides(t, list, false, right[0], right[0])
	checkRides(t, list, true, right[2], impl.Ride{Train: 10, Day: 6, From: 1, To: 2})
	checkRides(t, list, false, impl.Ride{Train: 30, Day: 6, From: 4, To: 1})
	checkRides(t, []impl.Train{list[1], list[0]}, false, right[0])
}

func TestRidesBeginWhereTheOneAheadEnds(t *testing.T) {
	list := []impl.Train{threeStops(), trainBy(20, daily, 2, 300, 300, 3, 400, 410, 4, 500, 500)}
	for _, end := range []int{2, 3} {
		for _, begin := range []int{2, 3} {
			checkRides(t, list, begin == end, impl.Ride{Train: 10, Day: 5, From: 1, To: end}, impl.Ride{Train: 20, Day: 5, From: begin, To: 4})
		}
	}
	checkRides(t, list, true, impl.Ride{Train: 10, Day: 5, From: 1, To: 2}, impl.Ride{Train: 10, Day: 5, From: 2, To: 3})
}

func TestEarliestOfSmallLines(t *testing.T) {
	list := smallLines()
	first, second := impl.Ride{Train: 10, Day: 5, From: 1, To: 3}, impl.Ride{Train: 20, Day: 5, From: 3, To: 4}
	checkTold(t, list, 1, 4, 5, 0, 7500, first, second)
	checkTold(t, list, 1, 3, 5, 60, 7400, first)
	checkTold(t, list, 1, 2, 5, 0, 7300, impl.Ride{Train: 10, Day: 5, From: 1, To: 2})
	checkTold(t, list, 2, 4, 5, 105, 7500, impl.Ride{Train: 10, Day: 5, From: 2, To: 3}, second)
	checkTold(t, list, 1, 4, 5, 61, 8940, impl.Ride{Train: 10, Day: 6, From: 1, To: 3}, impl.Ride{Train: 20, Day: 6, From: 3, To: 4})
	for _, pair := range [][2]int{{4, 1}, {3, 1}, {2, 1}, {4, 3}, {1, 1}, {4, 4}, {9, 9}, {1, 9}, {9, 1}, {9, 8}, {0, 1}, {1, 0}, {-1, 2}, {math.MinInt, math.MaxInt}, {math.MaxInt, 4}} {
		checkNoWay(t, list, pair[0], pair[1], 5, 0)
	}
	checkNoWay(t, nil, 1, 2, 5, 0)
	checkNoWay(t, []impl.Train{list[1], list[0]}, 1, 2, 5, 0)
	checkNoWay(t, []impl.Train{list[0], list[0]}, 1, 2, 5, 0)
	checkNoWay(t, append(smallLines(), impl.Train{}), 1, 2, 5, 0)
}

func TestMinutesAndDaysThatAreAsked(t *testing.T) {
	list := []impl.Train{shuttle(1, daily, 1, 1439, 2, 1500)}
	for _, day := range []int{0, 1, 2, 89999, 90000} {
		for _, minute := range []int{0, 1, 1438, 1439} {
			checkTold(t, list, 1, 2, day, minute, 1440*day+1500, impl.Ride{Train: 1, Day: day, From: 1, To: 2})
		}
		for _, minute := range []int{math.MinInt, -1440, -1, 1440, 1441, 4000, math.MaxInt} {
			checkNoWay(t, list, 1, 2, day, minute)
		}
	}
	for _, day := range []int{math.MinInt, -7, -1, 90001, 90002, 99999, 100000, math.MaxInt} {
		for _, minute := range []int{math.MinInt, -1, 0, 1439, 1440, math.MaxInt} {
			checkNoWay(t, list, 1, 2, day, minute)
		}
	}
	checkTold(t, []impl.Train{shuttle(1, onlyOn(90001), 1, 0, 2, 9)}, 1, 2, 90000, 1439, 1440*90001+9, impl.Ride{Train: 1, Day: 90001, From: 1, To: 2})
}

func TestATrainThatSetsOutJustAtTheMinute(t *testing.T) {
	for _, dep := range []int{0, 1, 700, 1438, 1439} {
		list := []impl.Train{shuttle(1, daily, 1, dep, 2, dep+50)}
		for minute := max(0, dep-1); minute <= min(1439, dep+1); minute++ {
			day := askedDay
			if dep < minute {
				day++
			}
			checkTold(t, list, 1, 2, askedDay, minute, 1440*day+dep+50, impl.Ride{Train: 1, Day: day, From: 1, To: 2})
		}
	}
	stays := []impl.Train{trainBy(1, daily, 1, 100, 200, 2, 300, 300)}
	checkTold(t, stays, 1, 2, askedDay, 200, 1440*askedDay+300, impl.Ride{Train: 1, Day: askedDay, From: 1, To: 2})
	checkTold(t, stays, 1, 2, askedDay, 201, 1440*(askedDay+1)+300, impl.Ride{Train: 1, Day: askedDay + 1, From: 1, To: 2})
}

func TestTrainsOfTheDaysAround(t *testing.T) {
	for _, minute := range []int{0, 500, 1119, 1120} {
		for shift := -4; shift <= 4; shift++ {
			for _, dep := range []int{0, 100, 1120, 1440, 1540, 2560, 2880, 3380, 3999} {
				day := askedDay + shift
				list := []impl.Train{shuttle(1, onlyOn(day), 1, dep, 2, dep+1)}
				at := 1440*shift + dep
				if !within(shift, -2, 1) || at < minute {
					checkNoWay(t, list, 1, 2, askedDay, minute)
				} else {
					checkTold(t, list, 1, 2, askedDay, minute, 1440*askedDay+at+1, impl.Ride{Train: 1, Day: day, From: 1, To: 2})
				}
			}
		}
	}
}

func TestATrainIsReachedThatSetOutTwoDaysAhead(t *testing.T) {
	list := []impl.Train{shuttle(1, onlyOn(askedDay), 1, 100, 2, 200), trainBy(2, onlyOn(askedDay-2), 9, 0, 0, 2, 3000, 3083, 3, 3500, 4000)}
	checkTold(t, list, 1, 3, askedDay, 0, 1440*(askedDay-2)+3500, impl.Ride{Train: 1, Day: askedDay, From: 1, To: 2}, impl.Ride{Train: 2, Day: askedDay - 2, From: 2, To: 3})
	list[1].Stops[1].Dep--
	checkNoWay(t, list, 1, 3, askedDay, 0)
	checkNoWay(t, list, 9, 3, askedDay, 0)
}

func TestNoTrainSetsOutOnADayBelowNought(t *testing.T) {
	for day := range 4 {
		for shift := -4; shift <= 3; shift++ {
			for _, dep := range []int{0, 1440, 2880} {
				list := []impl.Train{shuttle(1, onlyOn(day+shift), 1, dep, 2, dep+9)}
				at := 1440*shift + dep
				if day+shift < 0 || !within(shift, -2, 1) || at < 0 {
					checkNoWay(t, list, 1, 2, day, 0)
				} else {
					checkTold(t, list, 1, 2, day, 0, 1440*day+at+9, impl.Ride{Train: 1, Day: day + shift, From: 1, To: 2})
				}
			}
		}
	}
}

func TestTheFirstToArriveIsTakenWhateverItTakes(t *testing.T) {
	direct := shuttle(1, daily, 1, 0, 7, 200)
	list := []impl.Train{direct}
	for i, x := range chain(6, 3) {
		x.Id = 10 + i
		list = append(list, x)
	}
	if n := checkEarliest(t, list, 1, 7, askedDay, 0); n != 6 {
		t.Errorf("%d rides were told where six arrive first", n)
	}
	list[0] = shuttle(1, daily, 1, 0, 7, 75)
	checkTold(t, list, 1, 7, askedDay, 0, 1440*askedDay+75, impl.Ride{Train: 1, Day: askedDay, From: 1, To: 7})
	late := []impl.Train{shuttle(1, daily, 1, 0, 2, 2000), shuttle(2, daily, 1, 600, 2, 700), shuttle(3, daily, 1, 601, 2, 699)}
	checkTold(t, late, 1, 2, askedDay, 0, 1440*askedDay+699, impl.Ride{Train: 3, Day: askedDay, From: 1, To: 2})
}

func TestOfWaysThatArriveTogetherTheFewestRidesAreTaken(t *testing.T) {
	for fewer := 1; fewer <= 5; fewer++ {
		list := chain(6, 3)
		dep := list[6-fewer].Stops[0].Dep
		skip := shuttle(99, daily, 1, 0, 8-fewer, dep+10)
		list = append(list, skip)
		if n := checkEarliest(t, list, 1, 7, askedDay, 0); n != fewer {
			t.Errorf("%d rides were told where %d arrive as soon", n, fewer)
		}
	}
}

func TestMoreThanMaxLegsAreNotTaken(t *testing.T) {
	for n := 1; n <= 9; n++ {
		if rides := checkEarliest(t, chain(n, 3), 1, n+1, askedDay, 0); n <= 6 && rides != n || n > 6 && rides != 0 {
			t.Errorf("over %d trains there are %d rides", n, rides)
		}
	}
}

// The chain comes to each station first, but has then too few rides left.
func TestALaterTrainWithFewerRidesLeadsFurther(t *testing.T) {
	for skipped := 2; skipped <= 6; skipped++ {
		list := chain(7, 10)
		list = append(list, shuttle(99, daily, 1, 1, skipped+1, list[skipped-1].Stops[1].Arr+5))
		n := 8 - skipped
		if got := checkEarliest(t, list, 1, 8, askedDay, 0); got != n {
			t.Errorf("past %d trains there are %d rides, want %d", skipped, got, n)
		}
	}
}

func twoRides(a, b, dayA, dayB, from, over, to int) []impl.Ride {
	return []impl.Ride{{Train: a, Day: dayA, From: from, To: over}, {Train: b, Day: dayB, From: over, To: to}}
}

func TestWaysToldApartByTheTrain(t *testing.T) {
	d := askedDay
	alike := []impl.Train{shuttle(3, daily, 1, 50, 2, 90), shuttle(4, daily, 1, 10, 2, 90), shuttle(5, daily, 1, 60, 2, 90)}
	checkTold(t, alike, 1, 2, d, 0, 1440*d+90, impl.Ride{Train: 3, Day: d, From: 1, To: 2})
	last := []impl.Train{shuttle(3, daily, 1, 0, 2, 50), shuttle(6, daily, 2, 80, 3, 100), shuttle(7, daily, 2, 60, 3, 100)}
	checkTold(t, last, 1, 3, d, 0, 1440*d+100, twoRides(3, 6, d, d, 1, 2, 3)...)
	later := []impl.Train{shuttle(3, daily, 1, 40, 2, 57), shuttle(4, daily, 1, 0, 2, 10), shuttle(5, daily, 2, 60, 3, 100)}
	checkTold(t, later, 1, 3, d, 0, 1440*d+100, twoRides(3, 5, d, d, 1, 2, 3)...)
	later[0].Stops[1] = impl.Stop{Station: 2, Arr: 58, Dep: 58}
	checkTold(t, later, 1, 3, d, 0, 1440*d+100, twoRides(4, 5, d, d, 1, 2, 3)...)
}

func TestTheFirstRideCountsAheadOfTheSecond(t *testing.T) {
	d := askedDay
	list := []impl.Train{
		shuttle(3, daily, 1, 0, 5, 30), shuttle(4, daily, 1, 0, 2, 30), shuttle(5, daily, 2, 60, 3, 100), shuttle(9, daily, 5, 60, 3, 100),
	}
	checkTold(t, list, 1, 3, d, 0, 1440*d+100, twoRides(3, 9, d, d, 1, 5, 3)...)
	list[3].Stops[1].Arr++
	list[3].Stops[1].Dep++
	checkTold(t, list, 1, 3, d, 0, 1440*d+100, twoRides(4, 5, d, d, 1, 2, 3)...)
}

func TestWaysToldApartByTheDay(t *testing.T) {
	d := askedDay
	list := []impl.Train{shuttle(3, daily, 1, 0, 2, 50), shuttle(5, onlyOn(d+1), 2, 60, 3, 100)}
	checkTold(t, list, 1, 3, d, 0, 1440*(d+1)+100, twoRides(3, 5, d, d+1, 1, 2, 3)...)
	checkTold(t, list, 1, 3, d, 1, 1440*(d+1)+100, twoRides(3, 5, d+1, d+1, 1, 2, 3)...)
	list = []impl.Train{shuttle(2, onlyOn(d+1), 1, 0, 2, 50), shuttle(3, onlyOn(d), 1, 0, 2, 50), shuttle(5, onlyOn(d+1), 2, 60, 3, 100)}
	checkTold(t, list, 1, 3, d, 0, 1440*(d+1)+100, twoRides(2, 5, d+1, d+1, 1, 2, 3)...)
	over := []impl.Train{shuttle(3, daily, 1, 2980, 2, 3000), shuttle(5, onlyOn(d), 2, 2000, 3, 2100)}
	checkTold(t, over, 1, 3, d, 0, 1440*d+2100, twoRides(3, 5, d-2, d, 1, 2, 3)...)
}

// Rides that come first when From alone differs cannot be: what stands ahead
// of them would end at another station already.
func TestWaysToldApartByWhereARideEnds(t *testing.T) {
	d := askedDay
	for _, stations := range [][2]int{{2, 5}, {5, 2}} {
		early, late := stations[0], stations[1]
		list := []impl.Train{trainBy(3, daily, 1, 0, 0, early, 20, 21, late, 40, 41), trainBy(4, daily, early, 60, 60, late, 70, 71, 3, 100, 100)}
		checkTold(t, list, 1, 3, d, 0, 1440*d+100, twoRides(3, 4, d, d, 1, 2, 3)...)
	}
	three := []impl.Train{
		shuttle(2, daily, 1, 0, 9, 10), trainBy(3, daily, 9, 20, 20, 7, 30, 31, 6, 40, 41), trainBy(4, daily, 7, 60, 60, 6, 70, 71, 3, 100, 100),
	}
	checkTold(t, three, 1, 3, d, 0, 1440*d+100, append([]impl.Ride{{Train: 2, Day: d, From: 1, To: 9}}, twoRides(3, 4, d, d, 9, 6, 3)...)...)
}

func TestFewerRidesCountAheadOfTheTrain(t *testing.T) {
	d := askedDay
	list := []impl.Train{shuttle(1, daily, 1, 0, 2, 10), shuttle(2, daily, 2, 20, 3, 100), shuttle(9, daily, 1, 50, 3, 100)}
	checkTold(t, list, 1, 3, d, 0, 1440*d+100, impl.Ride{Train: 9, Day: d, From: 1, To: 3})
}

// anyLines has trains among few stations, at minutes a few apart, so that many
// ways arrive together.
func anyLines(r *rand.Rand, trains, stations, gap int) []impl.Train {
	list := make([]impl.Train, trains)
	for i := range list {
		list[i] = impl.Train{Id: 10 * (i + 1), Days: daily}
		if r.Intn(3) == 0 {
			list[i].Days = 1 + r.Intn(127)
		}
		minute := gap * r.Intn(24)
		for _, station := range r.Perm(stations)[:2+r.Intn(min(4, stations)-1)] {
			s := impl.Stop{Station: station + 1, Arr: minute, Dep: minute + r.Intn(3)}
			if s.Dep > 4000 {
				break
			}
			list[i].Stops = append(list[i].Stops, s)
			minute = s.Dep + 1 + r.Intn(gap)
		}
		if len(list[i].Stops) < 2 {
			list[i].Stops = shuttle(1, 1, 1, 0, 2, gap).Stops
		}
	}
	return list
}

func askAround(r *rand.Rand, stations int) (from, to, day, minute int) {
	days := []int{0, 1, 2, 3, askedDay, askedDay + 1, askedDay + 5, 90000}
	return 1 + r.Intn(stations), 1 + r.Intn(stations), days[r.Intn(len(days))], r.Intn([]int{1, 60, 1440}[r.Intn(3)])
}

func TestEarliestAmongAllWays(t *testing.T) {
	r := rand.New(rand.NewSource(6))
	counts := map[int]int{}
	for range 500 {
		trains, stations, gap := 1+r.Intn(16), 2+r.Intn(9), []int{3, 6, 40, 300, 900}[r.Intn(5)]
		list := anyLines(r, trains, stations, gap)
		if !rightLines(list) {
			t.Fatalf("the test made wrong lines: %+v", list)
		}
		for range 4 {
			from, to, day, minute := askAround(r, stations)
			counts[checkEarliest(t, list, from, to, day, minute)]++
		}
	}
	for n := range 5 {
		if counts[n] == 0 {
			t.Errorf("no way of %d rides was met: %v", n, counts)
		}
	}
}

// Trains one station further each make ways of many rides.
func TestEarliestAmongLongWays(t *testing.T) {
	r := rand.New(rand.NewSource(7))
	counts := map[int]int{}
	for range 120 {
		var list []impl.Train
		for i := range 14 {
			from := 1 + i/2
			dep := 12*from + r.Intn(9)
			list = append(list, shuttle(i+1, daily, from, dep, from+1+r.Intn(8)/7, dep+6+r.Intn(3)))
		}
		for to := 5; to <= 9; to++ {
			counts[checkEarliest(t, list, 1, to, 0, 0)]++
		}
	}
	for n := 4; n <= 6; n++ {
		if counts[n] == 0 {
			t.Errorf("no way of %d rides was met: %v", n, counts)
		}
	}
}

func TestTheRidesThatAreToldCanBeTakenAndNoneArriveSooner(t *testing.T) {
	r := rand.New(rand.NewSource(8))
	for range 200 {
		stations := 2 + r.Intn(6)
		list := anyLines(r, 1+r.Intn(8), stations, []int{3, 40, 300}[r.Intn(3)])
		from, to, day, minute := askAround(r, stations)
		rides, there, ok := impl.Earliest(list, from, to, day, minute)
		if ok {
			checkTaken(t, list, rides, from, to, 1440*day+minute, there)
		}
		checkNoneSooner(t, list, from, to, day, minute, there, ok)
	}
}

func checkTaken(t *testing.T, list []impl.Train, rides []impl.Ride, from, to, start, there int) {
	t.Helper()
	checkRides(t, list, true, rides...)
	first, _ := timedRide(list, rides[0])
	last, _ := timedRide(list, rides[len(rides)-1])
	if first.ride.From != from || first.dep < start || last.ride.To != to || last.arr != there {
		t.Errorf("from %d at %d to %d at %d is told by %+v in %+v", from, start, to, there, rides, list)
	}
}

func checkNoneSooner(t *testing.T, list []impl.Train, from, to, day, minute, there int, ok bool) {
	t.Helper()
	if from == to {
		return
	}
	all := ridesAround(list, day)
	for _, a := range all {
		if a.ride.From != from || a.dep < 1440*day+minute {
			continue
		}
		if a.ride.To == to && (!ok || a.arr < there) {
			t.Errorf("%+v arrives at %d, sooner than %d, %t", a.ride, a.arr, there, ok)
		}
		for _, b := range all {
			if b.ride.To == to && impl.RidesOk(list, []impl.Ride{a.ride, b.ride}) && (!ok || b.arr < there) {
				t.Errorf("%+v and %+v arrive at %d, sooner than %d, %t", a.ride, b.ride, b.arr, there, ok)
			}
		}
	}
}

func TestRidesOfAnyKind(t *testing.T) {
	r := rand.New(rand.NewSource(9))
	met := map[bool]int{}
	for range 300 {
		list := anyLines(r, 1+r.Intn(6), 2+r.Intn(4), 40)
		all := ridesAround(list, askedDay)
		for range 40 {
			var rides []impl.Ride
			for range 1 + r.Intn(3) {
				if len(all) > 0 {
					rides = append(rides, all[r.Intn(len(all))].ride)
				}
			}
			right := rightRides(list, rides)
			met[right && len(rides) > 1]++
			checkRides(t, list, right, rides...)
		}
	}
	if met[true] < 100 || met[false] < 100 {
		t.Errorf("too few rides of a kind were met: %v", met)
	}
}

// The most trains with the most stops, among few stations and among many.
func TestEarliestOfTheMostTrains(t *testing.T) {
	for _, apart := range []int{0, 1, 3, 19, 20} {
		var list []impl.Train
		for i := range impl.MaxTrains {
			x := longTrain(i+1, impl.MaxStops)
			for j := range x.Stops {
				x.Stops[j] = impl.Stop{Station: 1 + apart*i + j, Arr: 150*j + 20*i, Dep: 150*j + 20*i + 9}
			}
			list = append(list, x)
		}
		checkLines(t, list, true)
		for _, to := range []int{2, 20, 39, 9999} {
			rides, there, ok := impl.Earliest(list, 1, to, askedDay, 0)
			if ok {
				checkTaken(t, list, rides, 1, to, 1440*askedDay, there)
			}
			// All pairs of rides would take too long; those of some of the trains do not.
			checkNoneSooner(t, list[:3], 1, to, askedDay, 0, there, ok)
		}
	}
}

func TestAllThatIsToldOfManyLikeTrains(t *testing.T) {
	d := askedDay
	var list []impl.Train
	var want []impl.Ride
	for i := range impl.MaxTrains {
		step := i % 5
		list = append(list, shuttle(i+1, daily, 1+step, 20*step, 2+step, 20*step+10))
	}
	for step := range 5 {
		want = append(want, impl.Ride{Train: step + 1, Day: d, From: 1 + step, To: 2 + step})
	}
	checkTold(t, list, 1, 6, d, 0, 1440*d+90, want...)
}

// roomy has spare room behind the trains and behind the stops of each.
func roomy(list []impl.Train) []impl.Train {
	room := make([]impl.Train, 0, 2*len(list)+2)
	for _, x := range list {
		stops := slices.Repeat([]impl.Stop{{Station: 77, Arr: 7, Dep: 7}}, 2*len(x.Stops))
		copy(stops, x.Stops)
		x.Stops = stops[:len(x.Stops)]
		room = append(room, x)
	}
	return room
}

func wholeRoom(list []impl.Train) []impl.Train {
	whole := copiedLines(list[:cap(list)])
	for i := range list {
		whole[i].Stops = slices.Clone(list[i].Stops[:cap(list[i].Stops)])
	}
	return whole
}

func TestTrainsWriteIntoNoArgument(t *testing.T) {
	list := roomy(append(smallLines(), shuttle(30, daily, 4, 400, 5, 500)))
	kept := wholeRoom(list)
	rides := []impl.Ride{{Train: 10, Day: 5, From: 1, To: 3}, {Train: 20, Day: 5, From: 3, To: 4}, {Train: 30, Day: 5, From: 4, To: 5}, {Train: 1}}
	keptRides := slices.Clone(rides)
	for n := range len(list) + 1 {
		impl.LinesOk(list[:n])
		for m := range len(rides) + 1 {
			impl.RidesOk(list[:n], rides[:m])
		}
		for from := range 6 {
			for to := range 6 {
				impl.Earliest(list[:n], from, to, 5, 0)
			}
		}
		if x, ok := impl.FindTrain(list[:n], 10*n); ok {
			x.Stops = append(x.Stops, impl.Stop{Station: 1})
			clear(x.Stops)
		}
	}
	for _, x := range list {
		impl.TrainOk(x)
		impl.Runs(x, 5)
		impl.Cut(x, 1, 3)
		impl.Takes(x, 1, 3)
	}
	if got := wholeRoom(list); !slices.EqualFunc(got, kept, sameTrain) || !slices.Equal(rides, keptRides) {
		t.Errorf("the trains are now %+v, the rides %+v", got, rides)
	}
}

func TestTrainsAnswerNewMemory(t *testing.T) {
	list := smallLines()
	found, _ := impl.FindTrain(list, 10)
	clear(found.Stops)
	checkFound(t, list, 10, threeStops(), true)
	rides, _, _ := impl.Earliest(list, 1, 4, 5, 0)
	clear(rides)
	checkTold(t, list, 1, 4, 5, 0, 7500, twoRides(10, 20, 5, 5, 1, 3, 4)...)
}

func TestTrainsAnswerAtAnyArguments(t *testing.T) {
	list := smallLines()
	for _, a := range edgeNumbers {
		for _, b := range edgeNumbers {
			x := trainBy(a, b, a, b, a, b, a, b)
			checkTrain(t, seated(x, a, b), false)
			checkRuns(t, x, a)
			checkCut(t, threeStops(), a, b)
			checkRides(t, list, false, impl.Ride{Train: a, Day: b, From: a, To: b})
			checkRides(t, list, false, impl.Ride{Train: 10, Day: 5, From: a, To: b}, impl.Ride{Train: b, Day: a, From: b, To: a})
			checkRides(t, []impl.Train{x}, false, impl.Ride{Train: a, Day: b, From: a, To: b})
			checkEarliest(t, list, a, b, 5, 0)
			checkEarliest(t, list, 1, 4, a, b)
			checkEarliest(t, []impl.Train{x}, a, b, b, a)
			checkFound(t, []impl.Train{x}, a, x, true)
		}
		checkEarliest(t, list, a, a, a, a)
		checkEarliest(t, nil, a, 4, a, 0)
	}
}
