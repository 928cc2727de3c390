package tests

import (
	"cmp"
	"math"
	"math/rand"
	"slices"
	"testing"

	"loop.example/g00211/impl"
)

var (
	noStations = []int{math.MinInt, -9999, -1, 0, 10000, 10001, math.MaxInt}
	noCosts    = []int{math.MinInt, -1000000, -1, 1000001, math.MaxInt}
	noClasses  = []int{math.MinInt, -2, -1, 0, 3, 4, 160, math.MaxInt}
	noCards    = []int{math.MinInt, -3, -1, 4, 5, 100, math.MaxInt}
	noPrices   = []int{math.MinInt, -1000, -2, -1, 10000001, 10000002, math.MaxInt}
)

// tariffBy takes the stations and the cost of each edge.
func tariffBy(numbers ...int) []impl.Edge {
	var list []impl.Edge
	for n := range slices.Chunk(numbers, 3) {
		list = append(list, impl.Edge{A: n[0], B: n[1], Cost: n[2]})
	}
	return list
}

func smallTariff() []impl.Edge {
	return tariffBy(1, 2, 500, 2, 3, 700, 1, 3, 1100, 3, 4, 250)
}

// lineOf goes over so many edges from station 1 on.
func lineOf(edges, cost int) []impl.Edge {
	list := make([]impl.Edge, edges)
	for i := range list {
		list[i] = impl.Edge{A: i + 1, B: i + 2, Cost: cost}
	}
	return list
}

// worth is a tariff of which the base from 1 to the station that is told too
// is a cost, be it more than one edge may have.
func worth(cost int) ([]impl.Edge, int) {
	edges := 1 + cost/1000000
	list := lineOf(edges, 1000000)
	list[edges-1].Cost = cost % 1000000
	return list, edges + 1
}

func turned(e impl.Edge) impl.Edge {
	return impl.Edge{A: e.B, B: e.A, Cost: e.Cost}
}

func backwards[T any](list []T) []T {
	list = slices.Clone(list)
	slices.Reverse(list)
	return list
}

func rightEdge(e impl.Edge) bool {
	return within(e.A, 1, 9999) && within(e.B, 1, 9999) && e.A != e.B && within(e.Cost, 0, 1000000)
}

func rightTariff(list []impl.Edge) bool {
	return len(list) <= 200 && !slices.ContainsFunc(list, func(e impl.Edge) bool { return !rightEdge(e) })
}

type costed struct {
	cost     int
	stations []int
}

func compareWays(a, b costed) int {
	return cmp.Or(cmp.Compare(a.cost, b.cost), cmp.Compare(len(a.stations), len(b.stations)), slices.Compare(a.stations, b.stations))
}

// oneEdgeMore tells the best way to each station with one edge more than the
// ways (by where they end) have, be there a better one with fewer or not.
func oneEdgeMore(list []impl.Edge, ways map[int]costed) map[int]costed {
	more := map[int]costed{}
	for _, one := range list {
		for _, e := range []impl.Edge{one, turned(one)} {
			ahead, ok := ways[e.A]
			if !ok {
				continue
			}
			w := costed{cost: ahead.cost + e.Cost, stations: append(slices.Clone(ahead.stations), e.B)}
			if other, met := more[e.B]; !met || compareWays(w, other) < 0 {
				more[e.B] = w
			}
		}
	}
	return more
}

func countStations(list []impl.Edge) int {
	met := map[int]int{}
	for _, e := range list {
		met[e.A]++
		met[e.B]++
	}
	return len(met)
}

// wantWay looks at the ways of each number of edges; one that comes to a
// station twice is never needed.
func wantWay(list []impl.Edge, a, b int) (costed, bool) {
	if !rightTariff(list) || !within(a, 1, 9999) || !within(b, 1, 9999) {
		return costed{}, false
	}
	ways := map[int]costed{a: {stations: []int{a}}}
	best, found := ways[b]
	for range min(len(list), countStations(list)) {
		ways = oneEdgeMore(list, ways)
		if w, ok := ways[b]; ok && (!found || compareWays(w, best) < 0) {
			best, found = w, true
		}
	}
	return best, found
}

// eachWay tells every way from where one ends to b that comes to no station
// twice.
func eachWay(list []impl.Edge, w costed, b int, tell func(costed)) {
	end := w.stations[len(w.stations)-1]
	if end == b {
		tell(w)
		return
	}
	for _, one := range list {
		for _, e := range []impl.Edge{one, turned(one)} {
			if e.A == end && !slices.Contains(w.stations, e.B) {
				eachWay(list, costed{cost: w.cost + e.Cost, stations: append(slices.Clone(w.stations), e.B)}, b, tell)
			}
		}
	}
}

func wantWayCost(list []impl.Edge, way []int) int {
	if !rightTariff(list) || len(way) == 0 {
		return -1
	}
	sum := 0
	for i := 1; i < len(way); i++ {
		var costs []int
		for _, e := range list {
			if e.A == way[i-1] && e.B == way[i] || e.B == way[i-1] && e.A == way[i] {
				costs = append(costs, e.Cost)
			}
		}
		if len(costs) == 0 {
			return -1
		}
		sum += slices.Min(costs)
	}
	return sum
}

var wantRates = map[[2]int]int{
	{1, 0}: 160, {1, 1}: 120, {1, 2}: 80, {1, 3}: 80,
	{2, 0}: 100, {2, 1}: 75, {2, 2}: 50, {2, 3}: 50,
}

func wantFare(list []impl.Edge, a, b, class, card int) (int, int) {
	rate, ok := wantRates[[2]int{class, card}]
	if !ok {
		return 0, impl.FareRate
	}
	w, ok := wantWay(list, a, b)
	if !ok {
		return 0, impl.FareWay
	}
	fare := w.cost * rate / 1000 * 10
	if 100*fare < w.cost*rate {
		fare += 10
	}
	if w.cost > 10000000 || fare > 10000000 {
		return 0, impl.FareCap
	}
	return fare, impl.FareOk
}

func wantFee(price, days int) int {
	switch {
	case !within(price, 0, 10000000):
		return -1
	case days < 0:
		return price
	case days == 0:
		return price/2 + price%2
	case days <= 7:
		return price/4 + min(price%4, 1)
	}
	return 0
}

// checkWay answers the way that is told.
func checkWay(t *testing.T, list []impl.Edge, a, b int) []int {
	t.Helper()
	want, will := wantWay(list, a, b)
	if base, ok := impl.BaseCost(list, a, b); base != want.cost || ok != will {
		t.Errorf("BaseCost(%v, %d, %d) = %d, %t, want %d, %t", list, a, b, base, ok, want.cost, will)
	}
	way, ok := impl.CheapWay(list, a, b)
	if !slices.Equal(way, want.stations) || ok != will {
		t.Errorf("CheapWay(%v, %d, %d) = %v, %t, want %v, %t", list, a, b, way, ok, want.stations, will)
	}
	return way
}

// checkToldWay asks for a way whichever way round the edges and their list are.
func checkToldWay(t *testing.T, list []impl.Edge, cost int, way ...int) {
	t.Helper()
	a, b := way[0], way[len(way)-1]
	around := slices.Clone(list)
	for i := range around {
		around[i] = turned(around[i])
	}
	for _, edges := range [][]impl.Edge{list, backwards(list), around, backwards(around)} {
		if base, ok := impl.BaseCost(edges, a, b); base != cost || !ok {
			t.Errorf("BaseCost(%v, %d, %d) = %d, %t, want %d", edges, a, b, base, ok, cost)
		}
		if got, ok := impl.CheapWay(edges, a, b); !slices.Equal(got, way) || !ok {
			t.Errorf("CheapWay(%v, %d, %d) = %v, %t, want %v", edges, a, b, got, ok, way)
		}
		checkWayCost(t, edges, cost, way...)
		checkWay(t, edges, a, b)
	}
}

func checkNoTariffWay(t *testing.T, list []impl.Edge, a, b int) {
	t.Helper()
	if base, ok := impl.BaseCost(list, a, b); base != 0 || ok {
		t.Errorf("BaseCost(%v, %d, %d) = %d, %t", list, a, b, base, ok)
	}
	if way, ok := impl.CheapWay(list, a, b); len(way) != 0 || ok {
		t.Errorf("CheapWay(%v, %d, %d) = %v, %t", list, a, b, way, ok)
	}
	for class := 1; class <= 2; class++ {
		checkFare(t, list, a, b, class, impl.CardNone, 0, impl.FareWay)
	}
}

func checkWayCost(t *testing.T, list []impl.Edge, want int, way ...int) {
	t.Helper()
	if wanted := wantWayCost(list, way); wanted != want {
		t.Fatalf("the test itself takes %d for the cost of %v by %v, not %d", wanted, way, list, want)
	}
	if got := impl.WayCost(list, way); got != want {
		t.Errorf("WayCost(%v, %v) = %d, want %d", list, way, got, want)
	}
}

func checkTariff(t *testing.T, list []impl.Edge, want bool) {
	t.Helper()
	if right := rightTariff(list); right != want {
		t.Fatalf("the test itself takes %v for right: %t", list, right)
	}
	if got := impl.TariffOk(list); got != want {
		t.Errorf("TariffOk(%v) = %t", list, got)
	}
	if want {
		return
	}
	checkWayCost(t, list, -1, 1)
	checkWayCost(t, list, -1, 1, 2)
	checkNoTariffWay(t, list, 1, 1)
	checkNoTariffWay(t, list, 1, 2)
	for _, e := range list[:min(2, len(list))] {
		checkWayCost(t, list, -1, e.A, e.B)
		checkNoTariffWay(t, list, e.A, e.B)
	}
}

func checkFare(t *testing.T, list []impl.Edge, a, b, class, card, fare, code int) {
	t.Helper()
	if want, said := wantFare(list, a, b, class, card); want != fare || said != code {
		t.Fatalf("the test itself takes %d, %d for the fare of %v from %d to %d in class %d with card %d, not %d, %d", want, said, list, a, b, class, card, fare, code)
	}
	if got, said := impl.Fare(list, a, b, class, card); got != fare || said != code {
		t.Errorf("Fare(%v, %d, %d, %d, %d) = %d, %d, want %d, %d", list, a, b, class, card, got, said, fare, code)
	}
}

func checkFee(t *testing.T, price, days int) {
	t.Helper()
	if got, want := impl.Fee(price, days), wantFee(price, days); got != want {
		t.Errorf("Fee(%d, %d) = %d, want %d", price, days, got, want)
	}
}

func TestTariffConstants(t *testing.T) {
	if impl.MaxEdges != 200 || impl.MaxFare != 10000000 {
		t.Errorf("MaxEdges is %d, MaxFare %d", impl.MaxEdges, impl.MaxFare)
	}
	if cards := []int{impl.CardNone, impl.CardQuarter, impl.CardHalf, impl.CardChild}; !slices.Equal(cards, []int{0, 1, 2, 3}) {
		t.Errorf("the cards are %v", cards)
	}
	if codes := []int{impl.FareOk, impl.FareWay, impl.FareRate, impl.FareCap}; !slices.Equal(codes, []int{0, 1, 2, 3}) {
		t.Errorf("the codes of fares are %v", codes)
	}
}

func TestEdgesAtTheirBounds(t *testing.T) {
	for _, station := range []int{1, 2, 9998, 9999} {
		for _, cost := range []int{0, 1, 999999, 1000000} {
			list := tariffBy(station, 5000, cost)
			checkTariff(t, list, true)
			checkToldWay(t, list, cost, station, 5000)
			checkToldWay(t, list, cost, 5000, station)
		}
	}
	checkToldWay(t, tariffBy(1, 9999, 1000000), 1000000, 1, 9999)
	for _, station := range noStations {
		checkTariff(t, tariffBy(station, 5000, 7), false)
		checkTariff(t, tariffBy(5000, station, 7), false)
		checkTariff(t, tariffBy(station, station, 7), false)
	}
	for _, cost := range noCosts {
		checkTariff(t, tariffBy(1, 2, cost), false)
	}
}

func TestAnEdgeFromAStationToItself(t *testing.T) {
	for _, station := range []int{1, 2, 5000, 9999} {
		for _, cost := range []int{0, 1, 1000000} {
			checkTariff(t, tariffBy(station, station, cost), false)
			checkTariff(t, append(smallTariff(), impl.Edge{A: station, B: station, Cost: cost}), false)
		}
	}
}

func TestEdgesAreCounted(t *testing.T) {
	checkTariff(t, nil, true)
	checkTariff(t, []impl.Edge{}, true)
	for _, n := range []int{1, 2, 100, 199, 200} {
		checkTariff(t, lineOf(n, 3), true)
	}
	for _, n := range []int{201, 202, 400, 9000} {
		checkTariff(t, lineOf(n, 3), false)
	}
	checkTariff(t, slices.Repeat(tariffBy(1, 2, 3), 200), true)
	checkTariff(t, slices.Repeat(tariffBy(1, 2, 3), 201), false)
}

// One wrong edge, far from what is asked, is enough.
func TestEachEdgeIsLookedAt(t *testing.T) {
	wrong := tariffBy(0, 1, 1, 1, 0, 1, 10000, 1, 1, 1, 10000, 1, 7, 7, 1, 1, 2, -1, 1, 2, 1000001, math.MinInt, math.MaxInt, 0)
	for _, n := range []int{1, 2, 5, impl.MaxEdges} {
		for i := range n {
			for _, e := range wrong {
				list := slices.Repeat(tariffBy(1, 2, 3, 2, 3, 4), n)[:n]
				checkTariff(t, list, true)
				list[i] = e
				checkTariff(t, list, false)
			}
		}
	}
}

func TestAnEdgeOfNoughtsIsNone(t *testing.T) {
	checkTariff(t, []impl.Edge{{}}, false)
	checkTariff(t, append(smallTariff(), impl.Edge{}), false)
}

func TestWaysOfASmallTariff(t *testing.T) {
	list := smallTariff()
	checkToldWay(t, list, 500, 1, 2)
	checkToldWay(t, list, 1100, 1, 3)
	checkToldWay(t, list, 1350, 1, 3, 4)
	checkToldWay(t, list, 1350, 4, 3, 1)
	checkToldWay(t, list, 950, 2, 3, 4)
	checkWayCost(t, list, 1200, 1, 2, 3)
	checkWayCost(t, list, 1450, 1, 2, 3, 4)
	checkWayCost(t, list, 2300, 1, 2, 3, 1)
	checkWayCost(t, list, 1000, 1, 2, 1)
}

func TestSeveralEdgesBetweenTwoStations(t *testing.T) {
	lists := [][]impl.Edge{
		tariffBy(1, 2, 30, 1, 2, 20), tariffBy(1, 2, 20, 1, 2, 30), tariffBy(1, 2, 30, 2, 1, 20), tariffBy(2, 1, 20, 1, 2, 30),
		tariffBy(1, 2, 20, 2, 1, 20), tariffBy(1, 2, 90, 2, 1, 20, 1, 2, 50), tariffBy(1, 2, 1000000, 2, 1, 20, 2, 1, 21, 1, 2, 20),
	}
	for _, list := range lists {
		checkToldWay(t, list, 20, 1, 2)
		checkToldWay(t, list, 20, 2, 1)
		checkWayCost(t, list, 40, 1, 2, 1)
		far := append(tariffBy(2, 3, 5, 3, 2, 4), list...)
		checkToldWay(t, far, 24, 1, 2, 3)
		checkToldWay(t, far, 24, 3, 2, 1)
	}
	checkToldWay(t, tariffBy(1, 2, 7, 1, 2, 0, 2, 1, 3), 0, 1, 2)
	checkToldWay(t, slices.Repeat(tariffBy(1, 2, 7, 2, 1, 8), 100), 7, 1, 2)
}

func TestWaysToldApartByTheirCostAlone(t *testing.T) {
	checkToldWay(t, tariffBy(1, 2, 10, 2, 9, 10, 1, 3, 10, 3, 9, 9), 19, 1, 3, 9)
	checkToldWay(t, tariffBy(1, 2, 10, 2, 9, 9, 1, 3, 10, 3, 9, 10), 19, 1, 2, 9)
	checkToldWay(t, tariffBy(1, 9, 5, 1, 2, 1, 2, 3, 1, 3, 4, 1, 4, 9, 1), 4, 1, 2, 3, 4, 9)
	checkToldWay(t, tariffBy(1, 9, 4, 1, 2, 1, 2, 3, 1, 3, 4, 1, 4, 9, 1), 4, 1, 9)
	checkToldWay(t, tariffBy(1, 9, 1000000, 1, 2, 0, 2, 9, 999999), 999999, 1, 2, 9)
	for edges := 1; edges < impl.MaxEdges; edges += 33 {
		long := append(lineOf(edges, 3), impl.Edge{A: 1, B: edges + 1, Cost: 3*edges + 1})
		checkToldWay(t, long, 3*edges, stationsOf(edges)...)
	}
}

// stationsOf are those of a line of so many edges.
func stationsOf(edges int) []int {
	list := make([]int, edges+1)
	for i := range list {
		list[i] = i + 1
	}
	return list
}

func TestWaysToldApartByTheNumberOfTheirEdgesAlone(t *testing.T) {
	checkToldWay(t, tariffBy(1, 2, 10, 2, 9, 10, 1, 9, 20), 20, 1, 9)
	checkToldWay(t, tariffBy(1, 2, 10, 2, 3, 10, 3, 9, 10, 1, 8, 15, 8, 9, 15), 30, 1, 8, 9)
	checkToldWay(t, tariffBy(1, 2, 10, 2, 3, 10, 3, 9, 10, 1, 8, 0, 8, 9, 30), 30, 1, 8, 9)
	checkToldWay(t, tariffBy(1, 2, 10, 2, 3, 10, 3, 9, 10, 1, 8, 30, 8, 9, 0), 30, 1, 8, 9)
	for edges := 2; edges < impl.MaxEdges; edges += 33 {
		long := append(lineOf(edges, 3), impl.Edge{A: 1, B: edges + 1, Cost: 3 * edges})
		checkToldWay(t, long, 3*edges, 1, edges+1)
	}
}

// What comes first where a way branches does not count when it has more edges
// ahead of there or behind.
func TestFewerEdgesCountAheadOfTheStations(t *testing.T) {
	checkToldWay(t, tariffBy(10, 1, 1, 1, 2, 1, 2, 20, 1, 10, 8, 1, 8, 20, 2), 3, 10, 8, 20)
	checkToldWay(t, tariffBy(10, 1, 1, 1, 2, 1, 2, 20, 1, 20, 30, 1, 10, 8, 1, 8, 20, 2), 4, 10, 8, 20, 30)
	checkToldWay(t, tariffBy(30, 10, 1, 10, 1, 1, 1, 2, 1, 2, 20, 1, 10, 8, 1, 8, 20, 2), 4, 30, 10, 8, 20)
}

func TestWaysToldApartByTheirStationsAlone(t *testing.T) {
	checkToldWay(t, tariffBy(1, 5, 1, 5, 4, 1, 1, 3, 1, 3, 4, 1), 2, 1, 3, 4)
	checkToldWay(t, tariffBy(1, 10, 1, 10, 99, 1, 1, 9, 1, 9, 99, 1), 2, 1, 9, 99)
	checkToldWay(t, tariffBy(1, 9999, 1, 9999, 99, 1, 1, 1000, 1, 1000, 99, 1), 2, 1, 1000, 99)
	checkToldWay(t, tariffBy(1, 3, 1, 3, 99, 9, 1, 7, 9, 7, 99, 1), 10, 1, 3, 99)
	checkToldWay(t, tariffBy(1, 3, 9, 3, 99, 1, 1, 7, 1, 7, 99, 9), 10, 1, 3, 99)
	checkToldWay(t, tariffBy(1, 2, 1, 2, 8, 1, 2, 7, 1, 8, 99, 1, 7, 99, 1), 3, 1, 2, 7, 99)
}

// The first station that differs counts, whichever come behind; back from b to
// a that may be another way.
func TestTheFirstStationThatDiffersCounts(t *testing.T) {
	list := tariffBy(1, 20, 1, 20, 31, 1, 31, 99, 1, 1, 21, 1, 21, 30, 1, 30, 99, 1)
	checkToldWay(t, list, 3, 1, 20, 31, 99)
	checkToldWay(t, list, 3, 99, 30, 21, 1)
	crossed := append(list, tariffBy(20, 30, 1, 21, 31, 1)...)
	checkToldWay(t, crossed, 3, 1, 20, 30, 99)
	checkToldWay(t, crossed, 3, 99, 30, 20, 1)
	cheap := tariffBy(1, 20, 2, 20, 31, 0, 31, 99, 1, 1, 21, 0, 21, 30, 0, 30, 99, 3)
	checkToldWay(t, cheap, 3, 1, 20, 31, 99)
	checkToldWay(t, cheap, 3, 99, 30, 21, 1)
}

func TestEdgesOfNoCost(t *testing.T) {
	checkToldWay(t, tariffBy(1, 2, 0), 0, 1, 2)
	checkToldWay(t, tariffBy(1, 2, 0, 2, 3, 0, 1, 3, 0), 0, 1, 3)
	checkToldWay(t, tariffBy(1, 2, 0, 2, 3, 0, 1, 3, 1), 0, 1, 2, 3)
	checkToldWay(t, tariffBy(1, 5, 0, 5, 9, 0, 1, 2, 0, 2, 3, 0, 3, 9, 0), 0, 1, 5, 9)
	checkToldWay(t, tariffBy(1, 5, 0, 5, 9, 0, 1, 4, 0, 4, 9, 0), 0, 1, 4, 9)
	checkToldWay(t, tariffBy(1, 2, 7, 2, 3, 0, 3, 9, 0, 1, 4, 0, 4, 9, 7), 7, 1, 4, 9)
	checkToldWay(t, tariffBy(1, 2, 0, 2, 9, 7, 1, 4, 7, 4, 9, 0), 7, 1, 2, 9)
	checkToldWay(t, tariffBy(1, 2, 0, 2, 3, 0, 3, 9, 7, 1, 9, 7), 7, 1, 9)
	for _, edges := range []int{1, 2, 50, impl.MaxEdges} {
		checkToldWay(t, lineOf(edges, 0), 0, stationsOf(edges)...)
	}
}

func TestRingsOfNoCost(t *testing.T) {
	for size := 3; size <= 9; size++ {
		ring := append(lineOf(size-1, 0), impl.Edge{A: size, B: 1})
		for a := 1; a <= size; a++ {
			checkToldWay(t, ring, 0, a)
			for b := 1; b <= size; b++ {
				way := checkWay(t, ring, a, b)
				apart := max(a-b, b-a)
				if want := min(apart, size-apart) + 1; len(way) != want {
					t.Errorf("around a ring of %d from %d to %d: %v", size, a, b, way)
				}
			}
			checkToldWay(t, append(ring, impl.Edge{A: a, B: 99, Cost: 5}), 5, a, 99)
		}
		checkNoTariffWay(t, ring, 1, size+1)
	}
	two := tariffBy(1, 2, 0, 2, 3, 0, 3, 1, 0, 3, 11, 4, 11, 12, 0, 12, 13, 0, 13, 11, 0)
	checkToldWay(t, two, 4, 1, 3, 11, 12)
	checkToldWay(t, two, 4, 13, 11, 3, 2)
}

func TestFromAStationToItself(t *testing.T) {
	for _, list := range [][]impl.Edge{nil, smallTariff(), tariffBy(1, 2, 0, 2, 1, 0), lineOf(impl.MaxEdges, 0)} {
		for _, station := range []int{1, 2, 3, 4, 5, 500, 9998, 9999} {
			checkToldWay(t, list, 0, station)
			checkFare(t, list, station, station, 2, impl.CardNone, 0, impl.FareOk)
			checkFare(t, list, station, station, 1, impl.CardHalf, 0, impl.FareOk)
		}
		for _, station := range noStations {
			checkNoTariffWay(t, list, station, station)
		}
	}
}

func TestStationsThatNoWayJoins(t *testing.T) {
	list := append(smallTariff(), tariffBy(11, 12, 0, 12, 13, 4)...)
	for _, a := range []int{1, 2, 3, 4} {
		for _, b := range []int{5, 10, 11, 12, 13, 14, 9999} {
			checkNoTariffWay(t, list, a, b)
			checkNoTariffWay(t, list, b, a)
		}
	}
	checkNoTariffWay(t, list, 5, 6)
	checkNoTariffWay(t, list, 5, 11)
	checkNoTariffWay(t, nil, 1, 2)
	checkToldWay(t, list, 4, 11, 12, 13)
	checkNoTariffWay(t, slices.Delete(lineOf(impl.MaxEdges, 0), 99, 100), 1, 201)
}

func TestWaysFromAndToWhatIsNoStation(t *testing.T) {
	for _, list := range [][]impl.Edge{nil, smallTariff(), tariffBy(1, 9999, 0)} {
		for _, a := range noStations {
			for _, b := range []int{1, 2, 9998, 9999} {
				checkNoTariffWay(t, list, a, b)
				checkNoTariffWay(t, list, b, a)
			}
			for _, b := range noStations {
				checkNoTariffWay(t, list, a, b)
			}
		}
	}
}

func TestWaysOfFewStations(t *testing.T) {
	for _, list := range [][]impl.Edge{nil, smallTariff(), tariffBy(1, 2, 0)} {
		checkWayCost(t, list, -1)
		for _, station := range []int{1, 2, 5, 500, 9999} {
			checkWayCost(t, list, 0, station)
			checkWayCost(t, list, -1, station, station)
			checkWayCost(t, list, -1, station, station, station)
		}
	}
	if got := impl.WayCost(smallTariff(), []int{}); got != -1 {
		t.Errorf("a way of no station costs %d", got)
	}
	for _, way := range [][]int{{1, 1, 2}, {1, 2, 2}, {1, 2, 2, 3}, {1, 4}, {4, 1}, {1, 2, 4}, {1, 9}, {9, 1}, {1, 2, 3, 9}, {9, 1, 2}} {
		checkWayCost(t, smallTariff(), -1, way...)
	}
}

// A list of one number needs no edge, whatever the number is.
func TestWaysThroughWhatIsNoStation(t *testing.T) {
	for _, station := range noStations {
		checkWayCost(t, smallTariff(), 0, station)
		checkWayCost(t, smallTariff(), -1, station, station)
		checkWayCost(t, smallTariff(), -1, 1, station)
		checkWayCost(t, smallTariff(), -1, station, 1)
		checkWayCost(t, smallTariff(), -1, 1, station, 2)
		checkWayCost(t, smallTariff(), -1, 1, 2, station)
	}
}

func TestAWayMayGoOverAnEdgeTwice(t *testing.T) {
	list := tariffBy(1, 2, 1000000, 2, 3, 0, 2, 1, 1000000)
	checkWayCost(t, list, 2000000, 1, 2, 1)
	checkWayCost(t, list, 0, 2, 3, 2, 3, 2)
	there := slices.Repeat([]int{1, 2}, 50000)
	for next, want := range map[int]int{1: 100000 * 1000000, 2: -1, 3: 99999 * 1000000, 4: -1} {
		if got := impl.WayCost(list, append(slices.Clone(there), next)); got != want {
			t.Errorf("there and back 50000 times and to %d costs %d, want %d", next, got, want)
		}
	}
}

// anyTariff has few stations and few costs, so that many ways cost the same.
func anyTariff(r *rand.Rand, edges, stations, costs int) []impl.Edge {
	list := make([]impl.Edge, edges)
	for i := range list {
		two := r.Perm(stations)
		list[i] = impl.Edge{A: two[0] + 1, B: two[1] + 1, Cost: r.Intn(costs)}
	}
	return list
}

func TestCheapWayAmongAllWays(t *testing.T) {
	r := rand.New(rand.NewSource(7))
	counts := map[int]int{}
	for range 600 {
		stations := 2 + r.Intn(5)
		list := anyTariff(r, r.Intn(11), stations, []int{1, 2, 4, 1000}[r.Intn(4)])
		for a := 1; a <= stations; a++ {
			for b := 1; b <= stations; b++ {
				var all []costed
				eachWay(list, costed{stations: []int{a}}, b, func(w costed) { all = append(all, w) })
				way := checkWay(t, list, a, b)
				counts[len(way)]++
				checkFirst(t, list, all, a, b)
			}
		}
	}
	for n := range 6 {
		if counts[n] == 0 {
			t.Errorf("no way of %d stations was met: %v", n, counts)
		}
	}
}

func checkFirst(t *testing.T, list []impl.Edge, all []costed, a, b int) {
	t.Helper()
	way, ok := impl.CheapWay(list, a, b)
	if len(all) == 0 {
		if ok {
			t.Errorf("CheapWay(%v, %d, %d) = %v", list, a, b, way)
		}
		return
	}
	if first := slices.MinFunc(all, compareWays); !ok || !slices.Equal(way, first.stations) {
		t.Errorf("CheapWay(%v, %d, %d) = %v, %t, want %v", list, a, b, way, ok, first.stations)
	}
}

func TestCheapWayOfGreatTariffs(t *testing.T) {
	r := rand.New(rand.NewSource(8))
	for range 8 {
		for _, stations := range []int{3, 20, 60, 150, 300} {
			list := anyTariff(r, impl.MaxEdges-r.Intn(2), stations, []int{1, 3, 1000001}[r.Intn(3)])
			for range 4 {
				checkWay(t, list, 1+r.Intn(stations), 1+r.Intn(stations))
			}
		}
	}
}

// gridOf joins each of side times side stations with the next to the right and
// the next below: all ways across that do not go back cost the same.
func gridOf(side, cost int) []impl.Edge {
	var list []impl.Edge
	for i := range side * side {
		if i%side < side-1 {
			list = append(list, impl.Edge{A: i + 1, B: i + 2, Cost: cost})
		}
		if i < side*(side-1) {
			list = append(list, impl.Edge{A: i + 1, B: i + 1 + side, Cost: cost})
		}
	}
	return list
}

func TestCheapWayAcrossAGrid(t *testing.T) {
	for _, cost := range []int{0, 1, 1000000} {
		list := gridOf(10, cost)
		way := stationsOf(9)
		for i := 2; i <= 10; i++ {
			way = append(way, 10*i)
		}
		checkToldWay(t, list, 18*cost, way...)
		back := []int{100}
		for i := 9; i >= 1; i-- {
			back = append(back, 10*i)
		}
		for i := 9; i >= 1; i-- {
			back = append(back, i)
		}
		checkToldWay(t, list, 18*cost, back...)
	}
}

func TestTheBaseIsWhatTheWayCostsAndTheSameBack(t *testing.T) {
	r := rand.New(rand.NewSource(9))
	for range 150 {
		stations := 2 + r.Intn(8)
		list := anyTariff(r, r.Intn(25), stations, []int{1, 5, 1000001}[r.Intn(3)])
		for a := 1; a <= stations+1; a++ {
			for b := 1; b <= stations+1; b++ {
				checkBase(t, list, a, b)
				for c := 1; c <= stations+1; c++ {
					checkOver(t, list, a, b, c)
				}
			}
		}
	}
}

func checkBase(t *testing.T, list []impl.Edge, a, b int) {
	t.Helper()
	base, ok := impl.BaseCost(list, a, b)
	back, okBack := impl.BaseCost(list, b, a)
	way, told := impl.CheapWay(list, a, b)
	if back != base || okBack != ok || told != ok {
		t.Errorf("from %d to %d by %v: %d, %t, back %d, %t, and a way is told: %t", a, b, list, base, ok, back, okBack, told)
	}
	if !ok {
		return
	}
	if cost := impl.WayCost(list, way); cost != base || way[0] != a || way[len(way)-1] != b {
		t.Errorf("from %d to %d by %v: %d, but %v costs %d", a, b, list, base, way, cost)
	}
}

func checkOver(t *testing.T, list []impl.Edge, a, b, c int) {
	t.Helper()
	base, ok := impl.BaseCost(list, a, b)
	first, okFirst := impl.BaseCost(list, a, c)
	second, okSecond := impl.BaseCost(list, c, b)
	if okFirst && okSecond && (!ok || base > first+second) {
		t.Errorf("from %d to %d by %v: %d, %t, over %d %d", a, b, list, base, ok, c, first+second)
	}
}

func TestNoWayCostsLessThanTheBase(t *testing.T) {
	r := rand.New(rand.NewSource(10))
	met := 0
	for range 2000 {
		list := anyTariff(r, 1+r.Intn(30), 2+r.Intn(6), []int{1, 5, 1000}[r.Intn(3)])
		way := []int{list[0].A}
		for range r.Intn(7) {
			e := list[r.Intn(len(list))]
			switch way[len(way)-1] {
			case e.A:
				way = append(way, e.B)
			case e.B:
				way = append(way, e.A)
			}
		}
		cost := wantWayCost(list, way)
		checkWayCost(t, list, cost, way...)
		if base, ok := impl.BaseCost(list, way[0], way[len(way)-1]); !ok || base > cost {
			t.Errorf("%v by %v costs %d, the base is %d, %t", way, list, cost, base, ok)
		}
		met += min(len(way)-1, 1)
	}
	if met < 500 {
		t.Errorf("only %d ways had an edge", met)
	}
}

func TestCostsOfAnyWay(t *testing.T) {
	r := rand.New(rand.NewSource(11))
	met := map[bool]int{}
	for range 3000 {
		stations := 2 + r.Intn(3)
		list := anyTariff(r, r.Intn(9), stations, 50)
		way := make([]int, r.Intn(5))
		for i := range way {
			way[i] = 1 + r.Intn(stations)
		}
		want := wantWayCost(list, way)
		met[want > 0]++
		checkWayCost(t, list, want, way...)
	}
	if met[true] < 100 || met[false] < 100 {
		t.Errorf("too few ways of a kind were met: %v", met)
	}
}

func TestRate(t *testing.T) {
	for _, class := range append(slices.Clone(noClasses), 1, 2) {
		for _, card := range append(slices.Clone(noCards), 0, 1, 2, 3) {
			want, ok := wantRates[[2]int{class, card}]
			if !ok {
				want = -1
			}
			if got := impl.Rate(class, card); got != want {
				t.Errorf("Rate(%d, %d) = %d, want %d", class, card, got, want)
			}
		}
	}
	if len(wantRates) != 8 {
		t.Errorf("the test itself has %d rates", len(wantRates))
	}
}

func TestFaresOfASmallTariff(t *testing.T) {
	list := smallTariff()
	fares := map[[2]int]int{
		{1, 0}: 2160, {1, 1}: 1620, {1, 2}: 1080, {1, 3}: 1080,
		{2, 0}: 1350, {2, 1}: 1020, {2, 2}: 680, {2, 3}: 680,
	}
	for asked, fare := range fares {
		checkFare(t, list, 1, 4, asked[0], asked[1], fare, impl.FareOk)
		checkFare(t, list, 4, 1, asked[0], asked[1], fare, impl.FareOk)
	}
}

// A fare whose share of the base is just so many tens is as it is; one that is
// above by the least is the next.
func TestFaresUpToTheNextTen(t *testing.T) {
	for asked, rate := range wantRates {
		list := tariffBy(1, 2, 1000)
		checkFare(t, list, 1, 2, asked[0], asked[1], 10*rate, impl.FareOk)
		list[0].Cost = 1001
		checkFare(t, list, 1, 2, asked[0], asked[1], 10*rate+10, impl.FareOk)
		list[0].Cost = 0
		checkFare(t, list, 1, 2, asked[0], asked[1], 0, impl.FareOk)
		list[0].Cost = 1
		checkFare(t, list, 1, 2, asked[0], asked[1], 10, impl.FareOk)
	}
	fares := [][4]int{{2, 0, 10, 10}, {2, 0, 11, 20}, {2, 0, 9, 10}, {2, 1, 40, 30}, {2, 1, 41, 40}, {2, 1, 53, 40}, {2, 1, 54, 50}, {2, 2, 20, 10}, {2, 2, 21, 20}, {1, 0, 25, 40}, {1, 0, 26, 50}, {1, 1, 25, 30}, {1, 1, 26, 40}, {1, 2, 25, 20}, {1, 3, 26, 30}}
	for _, f := range fares {
		checkFare(t, tariffBy(7, 8, f[2]), 7, 8, f[0], f[1], f[3], impl.FareOk)
	}
}

func TestAFareIsItsShareOfTheBaseUpToTheNextTen(t *testing.T) {
	for asked, rate := range wantRates {
		for cost := range 2100 {
			list := tariffBy(3, 2, cost)
			fare, said := impl.Fare(list, 2, 3, asked[0], asked[1])
			if said != impl.FareOk || fare%10 != 0 || 100*fare < rate*cost || 100*(fare-10) >= rate*cost {
				t.Errorf("the fare of %d in class %d with card %d is %d, %d", cost, asked[0], asked[1], fare, said)
			}
			checkFare(t, list, 3, 2, asked[0], asked[1], fare, impl.FareOk)
		}
	}
}

func TestFaresOfAnyTariff(t *testing.T) {
	r := rand.New(rand.NewSource(12))
	met := map[int]int{}
	for range 4000 {
		stations := 2 + r.Intn(30)
		list := anyTariff(r, r.Intn(60), stations, 1000001)
		a, b := 1+r.Intn(stations), 1+r.Intn(stations)
		class, card := r.Intn(4), r.Intn(5)
		fare, code := wantFare(list, a, b, class, card)
		met[code]++
		checkFare(t, list, a, b, class, card, fare, code)
	}
	for _, code := range []int{impl.FareOk, impl.FareWay, impl.FareRate} {
		if met[code] < 100 {
			t.Errorf("too few fares of a kind were met: %v", met)
		}
	}
}

func TestBasesAtMaxFare(t *testing.T) {
	for _, cost := range []int{9999989, 9999990, 9999991, 9999999, 10000000, 10000001, 10000010, 10000011, 19999999, 20000000, 199000000} {
		list, end := worth(cost)
		checkToldWay(t, list, cost, stationsOf(end-1)...)
		for asked := range wantRates {
			fare, code := wantFare(list, 1, end, asked[0], asked[1])
			checkFare(t, list, 1, end, asked[0], asked[1], fare, code)
		}
	}
	exact, end := worth(10000000)
	above, _ := worth(10000001)
	checkFare(t, exact, 1, end, 2, impl.CardNone, 10000000, impl.FareOk)
	checkFare(t, exact, 1, end, 2, impl.CardQuarter, 7500000, impl.FareOk)
	checkFare(t, exact, 1, end, 2, impl.CardHalf, 5000000, impl.FareOk)
	checkFare(t, exact, 1, end, 1, impl.CardChild, 8000000, impl.FareOk)
	checkFare(t, exact, 1, end, 1, impl.CardNone, 0, impl.FareCap)
	for asked := range wantRates {
		checkFare(t, above, 1, end, asked[0], asked[1], 0, impl.FareCap)
	}
	all := lineOf(impl.MaxEdges, 1000000)
	checkToldWay(t, all, 200000000, stationsOf(impl.MaxEdges)...)
	checkFare(t, all, 1, 201, 2, impl.CardHalf, 0, impl.FareCap)
}

func TestFaresAtMaxFare(t *testing.T) {
	for _, f := range [][5]int{
		{6250000, 1, impl.CardNone, 10000000, impl.FareOk}, {6250001, 1, impl.CardNone, 0, impl.FareCap},
		{6249994, 1, impl.CardNone, 10000000, impl.FareOk}, {6249993, 1, impl.CardNone, 9999990, impl.FareOk},
		{8333333, 1, impl.CardQuarter, 10000000, impl.FareOk}, {8333334, 1, impl.CardQuarter, 0, impl.FareCap},
		{9999991, 2, impl.CardNone, 10000000, impl.FareOk}, {9999990, 2, impl.CardNone, 9999990, impl.FareOk},
	} {
		list, end := worth(f[0])
		checkFare(t, list, 1, end, f[1], f[2], f[3], f[4])
	}
}

func TestWhichReasonOfAFareIsToldFirst(t *testing.T) {
	dear := lineOf(20, 1000000)
	wrong := append(smallTariff(), impl.Edge{A: 1, B: 1})
	for _, class := range append(slices.Clone(noClasses), 2) {
		for _, card := range noCards {
			for _, list := range [][]impl.Edge{nil, smallTariff(), dear, wrong, lineOf(201, 1)} {
				checkFare(t, list, 1, 2, class, card, 0, impl.FareRate)
				checkFare(t, list, 1, 21, class, card, 0, impl.FareRate)
				checkFare(t, list, 0, 10000, class, card, 0, impl.FareRate)
			}
		}
	}
	for _, class := range noClasses {
		checkFare(t, wrong, 1, 9, class, impl.CardNone, 0, impl.FareRate)
		checkFare(t, dear, 1, 21, class, impl.CardHalf, 0, impl.FareRate)
		checkFare(t, dear, 1, 1, class, impl.CardChild, 0, impl.FareRate)
	}
	checkFare(t, append(dear, impl.Edge{}), 1, 21, 2, impl.CardNone, 0, impl.FareWay)
	checkFare(t, lineOf(201, 1000000), 1, 202, 2, impl.CardNone, 0, impl.FareWay)
	checkFare(t, dear, 1, 22, 2, impl.CardNone, 0, impl.FareWay)
	checkFare(t, dear, 1, 21, 2, impl.CardNone, 0, impl.FareCap)
}

func TestFeesOfSomePrices(t *testing.T) {
	for _, f := range [][3]int{
		{1001, 8, 0}, {1001, 7, 251}, {1001, 1, 251}, {1001, 0, 501}, {1001, -1, 1001},
		{1000, 7, 250}, {1000, 0, 500}, {1002, 1, 251}, {1003, 1, 251}, {1004, 1, 251}, {1005, 1, 252},
		{0, -1, 0}, {0, 0, 0}, {0, 1, 0}, {0, 8, 0}, {1, -1, 1}, {1, 0, 1}, {1, 1, 1}, {1, 8, 0}, {2, 0, 1}, {3, 0, 2}, {4, 7, 1}, {5, 7, 2},
		{10000000, -1, 10000000}, {10000000, 0, 5000000}, {10000000, 1, 2500000}, {10000000, 8, 0},
		{9999999, 0, 5000000}, {9999999, 7, 2500000}, {9999997, 7, 2500000}, {9999996, 7, 2499999},
	} {
		if got := impl.Fee(f[0], f[1]); got != f[2] {
			t.Errorf("Fee(%d, %d) = %d, want %d", f[0], f[1], got, f[2])
		}
	}
	for _, price := range noPrices {
		for _, days := range append(slices.Clone(edgeNumbers), 8, 9) {
			if got := impl.Fee(price, days); got != -1 {
				t.Errorf("Fee(%d, %d) = %d", price, days, got)
			}
		}
	}
}

func TestFeesAreNoLessTheNearerTheDay(t *testing.T) {
	days := []int{math.MinInt, -4294967296, -8, -7, -2, -1, 0, 1, 2, 3, 4, 5, 6, 7, 8, 9, 10, 100, 4294967296, math.MaxInt}
	prices := []int{4999999, 5000000, 9999996, 9999997, 9999998, 9999999, 10000000}
	for price := range 1000 {
		prices = append(prices, price)
	}
	for _, price := range prices {
		last := price
		for _, n := range days {
			checkFee(t, price, n)
			fee := impl.Fee(price, n)
			if !within(fee, 0, last) {
				t.Errorf("%d days ahead %d is kept of %d, nearer the day %d", n, fee, price, last)
			}
			last = fee
		}
		if last != 0 {
			t.Errorf("of %d there is %d kept however far the day is", price, last)
		}
	}
}

func TestTariffWritesIntoNoArgument(t *testing.T) {
	list := append(smallTariff(), tariffBy(4, 5, 0, 5, 1, 0, 2, 2, 9)...)
	way := []int{1, 2, 3, 4, 5, 1, 77}
	kept, keptWay := slices.Clone(list), slices.Clone(way)
	for n := range len(list) + 1 {
		impl.TariffOk(list[:n])
		for a := range 7 {
			for b := range 7 {
				impl.BaseCost(list[:n], a, b)
				impl.CheapWay(list[:n], a, b)
				impl.Fare(list[:n], a, b, 1+n%2, a%4)
			}
		}
		for m := range len(way) + 1 {
			impl.WayCost(list[:n], way[:m])
		}
	}
	if !slices.Equal(list, kept) || !slices.Equal(way, keptWay) {
		t.Errorf("the tariff is now %v, the way %v", list, way)
	}
}

func TestTariffAnswersNewMemory(t *testing.T) {
	list := smallTariff()
	for _, asked := range [][]int{{1, 3, 4}, {1, 2}, {7}} {
		a, b := asked[0], asked[len(asked)-1]
		way, _ := impl.CheapWay(list, a, b)
		clear(way)
		if again, ok := impl.CheapWay(list, a, b); !ok || !slices.Equal(again, asked) {
			t.Errorf("asked again, the way from %d to %d is %v, %t", a, b, again, ok)
		}
	}
	if !slices.Equal(list, smallTariff()) {
		t.Errorf("the tariff is now %v", list)
	}
}

func TestTariffAnswersAtAnyArguments(t *testing.T) {
	for _, a := range edgeNumbers {
		for _, b := range edgeNumbers {
			for _, list := range [][]impl.Edge{nil, smallTariff(), tariffBy(a, b, 0), tariffBy(1, 2, a, 2, 3, b), tariffBy(a, b, a, b, a, b)} {
				checkTariff(t, list, rightTariff(list))
				checkWay(t, list, a, b)
				checkWayCost(t, list, wantWayCost(list, []int{a, b}), a, b)
				checkWayCost(t, list, wantWayCost(list, []int{a, b, a}), a, b, a)
				fare, code := wantFare(list, a, b, a, b)
				checkFare(t, list, a, b, a, b, fare, code)
				fare, code = wantFare(list, 1, 3, b, a)
				checkFare(t, list, 1, 3, b, a, fare, code)
				fare, code = wantFare(list, a, b, 2, impl.CardNone)
				checkFare(t, list, a, b, 2, impl.CardNone, fare, code)
			}
			checkFee(t, a, b)
		}
	}
}
