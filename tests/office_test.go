package tests

import (
	"math"
	"math/rand"
	"slices"
	"strings"
	"testing"

	"loop.example/g00211/impl"
)

const (
	startDay = 5
	mostTold = 300
)

func rideOn(train, day, from, to int) impl.Ride {
	return impl.Ride{Train: train, Day: day, From: from, To: to}
}

// wholeWay is that of train 10, plainWay that of train 20, which has no seats.
func wholeWay(day int) impl.Ride {
	return rideOn(10, day, 1, 3)
}

func plainWay(day int) impl.Ride {
	return rideOn(20, day, 3, 4)
}

func sellOf(request int, rides ...impl.Ride) impl.Want {
	return impl.Want{Kind: impl.OfficeSell, Request: request, Name: "A B", Class: 2, Rides: rides}
}

func changeOf(request, order int, rides ...impl.Ride) impl.Want {
	return impl.Want{Kind: impl.OfficeChange, Request: request, Order: order, Rides: rides}
}

func backOf(request, order int) impl.Want {
	return impl.Want{Kind: impl.OfficeBack, Request: request, Order: order}
}

func dayOf(request, day int) impl.Want {
	return impl.Want{Kind: impl.OfficeDay, Request: request, Order: day}
}

func officeOf(t *testing.T, lines []impl.Train, tariff []impl.Edge, today int) impl.Office {
	t.Helper()
	o, ok := impl.OfficeStart(lines, tariff, today)
	if !ok || !sameOffice(o, impl.Office{Lines: lines, Tariff: tariff, Today: today}) {
		t.Fatalf("OfficeStart(%+v, %+v, %d) = %+v, %t", lines, tariff, today, o, ok)
	}
	checkRight(t, o)
	return o
}

func smallOffice(t *testing.T) impl.Office {
	t.Helper()
	return officeOf(t, smallLines(), smallTariff(), startDay)
}

// shortOffice has one train with one seat and the stops 1, 2 and 3.
func shortOffice(t *testing.T) impl.Office {
	t.Helper()
	return officeOf(t, []impl.Train{seated(threeStops(), 1, 1)}, smallTariff(), startDay)
}

func copiedOffice(o impl.Office) impl.Office {
	o.Lines, o.Tariff, o.Holds, o.Told = copiedLines(o.Lines), slices.Clone(o.Tariff), slices.Clone(o.Holds), slices.Clone(o.Told)
	o.Orders = slices.Clone(o.Orders)
	for i := range o.Orders {
		o.Orders[i].Rides = slices.Clone(o.Orders[i].Rides)
	}
	return o
}

func sameOrder(a, b impl.Order) bool {
	return a.Id == b.Id && a.State == b.State && a.Name == b.Name && a.Class == b.Class && a.Card == b.Card &&
		a.Price == b.Price && a.Paid == b.Paid && a.First == b.First && slices.Equal(a.Rides, b.Rides)
}

func sameOffice(a, b impl.Office) bool {
	return slices.EqualFunc(a.Lines, b.Lines, sameTrain) && slices.Equal(a.Tariff, b.Tariff) && slices.Equal(a.Holds, b.Holds) &&
		slices.EqualFunc(a.Orders, b.Orders, sameOrder) && slices.Equal(a.Told, b.Told) && a.Today == b.Today
}

// withRoom has spare room behind the list.
func withRoom[T any](list []T, junk T) []T {
	room := slices.Repeat([]T{junk}, len(list)+3)
	copy(room, list)
	return room[:len(list)]
}

func roomyOffice(o impl.Office) impl.Office {
	o.Lines = roomy(o.Lines)
	o.Tariff = withRoom(o.Tariff, impl.Edge{A: 7})
	o.Holds = withRoom(o.Holds, impl.Hold{Order: 7})
	o.Told = withRoom(o.Told, impl.Reply{Request: 7})
	o.Orders = withRoom(o.Orders, impl.Order{Id: 7})
	for i := range o.Orders {
		o.Orders[i].Rides = withRoom(o.Orders[i].Rides, impl.Ride{Day: 7})
	}
	return o
}

func wholeOffice(o impl.Office) impl.Office {
	whole := copiedOffice(impl.Office{Tariff: o.Tariff[:cap(o.Tariff)], Holds: o.Holds[:cap(o.Holds)], Orders: o.Orders[:cap(o.Orders)], Told: o.Told[:cap(o.Told)], Today: o.Today})
	whole.Lines = wholeRoom(o.Lines)
	for i := range o.Orders {
		whole.Orders[i].Rides = slices.Clone(o.Orders[i].Rides[:cap(o.Orders[i].Rides)])
	}
	return whole
}

// wipe writes over all that an office has, and over the spare room behind it.
func wipe(o impl.Office) {
	for _, x := range o.Lines {
		clear(x.Stops[:cap(x.Stops)])
	}
	for _, x := range o.Orders {
		clear(x.Rides[:cap(x.Rides)])
	}
	clear(o.Lines[:cap(o.Lines)])
	clear(o.Tariff[:cap(o.Tariff)])
	clear(o.Holds[:cap(o.Holds)])
	clear(o.Orders[:cap(o.Orders)])
	clear(o.Told[:cap(o.Told)])
}

func goodOrder(o impl.Office, number int) (impl.Order, bool) {
	for i, x := range o.Orders {
		if i+1 == number && x.State == 1 {
			return x, true
		}
	}
	return impl.Order{}, false
}

func rightOffice(o impl.Office) bool {
	requests := map[int]int{}
	for _, r := range o.Told {
		requests[r.Request]++
		if requests[r.Request] > 1 {
			return false
		}
	}
	for i, x := range o.Orders {
		if x.Id-1 != i {
			return false
		}
	}
	for _, h := range o.Holds {
		if _, ok := goodOrder(o, h.Order); !ok {
			return false
		}
	}
	return rightLines(o.Lines) && rightTariff(o.Tariff) && rightHolds(o.Holds) && len(o.Orders) <= 100 && len(o.Told) <= 300
}

func trainOf(lines []impl.Train, id int) impl.Train {
	for _, x := range lines {
		if x.Id == id {
			return x
		}
	}
	return impl.Train{}
}

// wantDays tells how many days a day is behind another, be they more than an
// int can have.
func wantDays(first, today int) int {
	days := bigOf(first)
	days.Sub(days, bigOf(today))
	if days.IsInt64() {
		return int(days.Int64())
	}
	return 1000 * days.Sign()
}

// wantSeats takes a seat for each ride, and answers all holds then.
func wantSeats(lines []impl.Train, holds []impl.Hold, rides []impl.Ride, order int) ([]impl.Hold, bool) {
	for _, r := range rides {
		x := trainOf(lines, r.Train)
		if x.Coaches*x.Seats == 0 {
			continue
		}
		a, b, _ := wantCut(x, r.From, r.To)
		h, ok := wantBest(holds, x, r.Day, a, b)
		holds = append(slices.Clone(holds), ordered(h, order))
		if !ok || !rightHolds(holds) {
			return nil, false
		}
	}
	return holds, true
}

// wantSale writes into the office, which is then of no use where it is refused.
func wantSale(o *impl.Office, w impl.Want, onTop int) impl.Reply {
	rate, known := wantRates[[2]int{w.Class, w.Card}]
	if !rightName(w.Name) || !known || rate < 0 {
		return impl.Reply{Said: 1}
	}
	if !rightRides(o.Lines, w.Rides) || w.Rides[0].Day < o.Today {
		return impl.Reply{Said: 2}
	}
	fare, code := wantFare(o.Tariff, w.Rides[0].From, w.Rides[len(w.Rides)-1].To, w.Class, w.Card)
	if code != 0 {
		return impl.Reply{Said: 3}
	}
	if len(o.Orders) > 99 {
		return impl.Reply{Said: 5}
	}
	number := len(o.Orders) + 1
	holds, ok := wantSeats(o.Lines, o.Holds, w.Rides, number)
	if !ok {
		return impl.Reply{Said: 4}
	}
	o.Holds = holds
	o.Orders = append(o.Orders, impl.Order{Id: number, State: 1, Name: w.Name, Class: w.Class, Card: w.Card, Rides: slices.Clone(w.Rides), Price: fare, Paid: fare + onTop, First: w.Rides[0].Day})
	return impl.Reply{Order: number, Amount: fare}
}

// wantEnd likewise; it answers what was paid, and the fee.
func wantEnd(o *impl.Office, number, state int) (old impl.Order, fee, said int) {
	old, ok := goodOrder(*o, number)
	if !ok {
		return old, 0, 6
	}
	if old.First < o.Today {
		return old, 0, 7
	}
	fee = wantFee(old.Paid, wantDays(old.First, o.Today))
	o.Orders[number-1].State = state
	o.Orders[number-1].Paid = map[int]int{2: fee, 3: 0}[state]
	o.Holds = slices.DeleteFunc(o.Holds, func(h impl.Hold) bool { return h.Order == number })
	return old, fee, 0
}

func wantDeed(o *impl.Office, w impl.Want) impl.Reply {
	switch w.Kind {
	case 0:
		return wantSale(o, w, 0)
	case 1:
		old, fee, said := wantEnd(o, w.Order, 3)
		if said != 0 {
			return impl.Reply{Said: said}
		}
		w.Name, w.Class, w.Card = old.Name, old.Class, old.Card
		r := wantSale(o, w, fee)
		r.Amount += fee - old.Paid
		return r
	case 2:
		old, fee, said := wantEnd(o, w.Order, 2)
		return impl.Reply{Said: said, Order: w.Order, Amount: fee - old.Paid}
	}
	if !within(w.Order, 0, 90000) || w.Order <= o.Today {
		return impl.Reply{Said: 1}
	}
	o.Today = w.Order
	return impl.Reply{}
}

func wantDo(o impl.Office, w impl.Want) (impl.Office, impl.Reply) {
	o = copiedOffice(o)
	if i := slices.IndexFunc(o.Told, func(r impl.Reply) bool { return r.Request == w.Request }); i >= 0 {
		return o, o.Told[i]
	}
	if len(o.Told) > 299 || w.Request < 1 || !within(w.Kind, 0, 3) {
		return o, impl.Reply{Request: w.Request, Said: 1}
	}
	next := copiedOffice(o)
	r := wantDeed(&next, w)
	if r.Said != 0 {
		next, r = o, impl.Reply{Said: r.Said}
	}
	r.Request = w.Request
	next.Told = append(next.Told, r)
	return next, r
}

func wantTicketFor(o impl.Office, id int) (impl.Ticket, bool) {
	x, ok := goodOrder(o, id)
	if !ok {
		return impl.Ticket{}, false
	}
	var days []int
	ticket := impl.Ticket{Id: x.Id, Name: x.Name, Class: x.Class, Price: x.Price, First: x.First}
	for _, r := range x.Rides {
		days = append(days, r.Day)
		leg := impl.Leg{Train: r.Train, Day: r.Day, From: r.From, To: r.To}
		a, _, ok := wantCut(trainOf(o.Lines, r.Train), r.From, r.To)
		for _, h := range backwards(o.Holds) {
			if ok && h.Order == id && h.Train == r.Train && h.Day == r.Day && h.A == a {
				leg.Coach, leg.Seat = h.Coach, h.Seat
			}
		}
		ticket.Legs = append(ticket.Legs, leg)
	}
	if len(days) > 0 {
		ticket.Last = slices.Max(days)
	}
	if !rightTicket(ticket) {
		return impl.Ticket{}, false
	}
	return ticket, true
}

func checkTicketFor(t *testing.T, o impl.Office, id int) impl.Ticket {
	t.Helper()
	want, will := wantTicketFor(o, id)
	got, ok := impl.TicketFor(o, id)
	if !sameTicket(got, want) || ok != will || ok != impl.TicketOk(got) {
		t.Errorf("TicketFor(%+v, %d) = %+v, %t, want %+v, %t", o, id, got, ok, want, will)
	}
	return got
}

func checkNoTicket(t *testing.T, o impl.Office, id int) {
	t.Helper()
	checkTicketFor(t, o, id)
	if got, ok := impl.TicketFor(o, id); ok || !sameTicket(got, impl.Ticket{}) {
		t.Errorf("TicketFor(%+v, %d) = %+v, %t, want none", o, id, got, ok)
	}
}

func checkOffice(t *testing.T, o impl.Office, want bool) {
	t.Helper()
	if right := rightOffice(o); right != want {
		t.Fatalf("the test itself takes %+v for right: %t", o, right)
	}
	if got := impl.OfficeOk(o); got != want {
		t.Errorf("OfficeOk(%+v) = %t", o, got)
	}
}

// checkDo answers what is told, once it has seen that nothing else of it is
// in memory of what was handed in.
func checkDo(t *testing.T, o impl.Office, w impl.Want) (impl.Office, impl.Reply) {
	t.Helper()
	asked, wants := roomyOffice(o), w
	wants.Rides = withRoom(w.Rides, impl.Ride{Day: 7})
	keptOffice, keptRides := wholeOffice(asked), slices.Clone(wants.Rides[:cap(wants.Rides)])
	want, said := wantDo(o, w)
	next, r := impl.OfficeDo(asked, wants)
	if r != said || !sameOffice(next, want) {
		t.Fatalf("OfficeDo(%+v, %+v) = %+v, %+v, want %+v, %+v", o, w, next, r, want, said)
	}
	answer := copiedOffice(next)
	wipe(next)
	if !sameOffice(wholeOffice(asked), keptOffice) || !slices.Equal(wants.Rides[:cap(wants.Rides)], keptRides) {
		t.Fatalf("the office that was handed in is now %+v, the want %+v", asked, wants)
	}
	return answer, r
}

func checkAll(t *testing.T, o impl.Office, list ...impl.Want) impl.Office {
	t.Helper()
	for _, w := range list {
		next, r := checkDo(t, o, w)
		if r.Said != impl.SaidDone || r.Request != w.Request {
			t.Fatalf("OfficeDo(%+v, %+v) said %+v", o, w, r)
		}
		o = next
		checkRight(t, o)
	}
	return o
}

// checkReply holds the Reply against one that is written out.
func checkReply(t *testing.T, o impl.Office, w impl.Want, order, amount int) impl.Office {
	t.Helper()
	next, r := checkDo(t, o, w)
	if want := (impl.Reply{Request: w.Request, Order: order, Amount: amount}); r != want || next.Told[len(next.Told)-1] != want {
		t.Errorf("OfficeDo(%+v, %+v) said %+v, want %+v", o, w, r, want)
	}
	return next
}

// checkRefused asks for one Reply more and for nothing else.
func checkRefused(t *testing.T, o impl.Office, w impl.Want, said int) impl.Office {
	t.Helper()
	next, r := checkDo(t, o, w)
	want := copiedOffice(o)
	want.Told = append(want.Told, impl.Reply{Request: w.Request, Said: said})
	if r != (impl.Reply{Request: w.Request, Said: said}) || !sameOffice(next, want) {
		t.Errorf("OfficeDo(%+v, %+v) = %+v, %+v, want said %d and one Reply more", o, w, next, r, said)
	}
	return next
}

func checkUntold(t *testing.T, o impl.Office, w impl.Want, want impl.Reply) {
	t.Helper()
	if next, r := checkDo(t, o, w); r != want || !sameOffice(next, o) {
		t.Errorf("OfficeDo(%+v, %+v) = %+v, %+v, want %+v and nothing new", o, w, next, r, want)
	}
}

// checkRight is promise 9, of an office that began with OfficeStart.
func checkRight(t *testing.T, o impl.Office) {
	t.Helper()
	checkOffice(t, o, true)
	sum := 0
	for _, r := range o.Told {
		sum += r.Amount
	}
	if got := impl.Income(o); got != sum {
		t.Errorf("the income of %+v is %d, said were %d", o, got, sum)
	}
	held := 0
	for _, x := range o.Orders {
		held += checkOwnSeats(t, o, x)
	}
	if held != len(o.Holds) {
		t.Errorf("%d rides have a seat, but the holds are %+v", held, o.Holds)
	}
}

// checkOwnSeats answers how many rides have one.
func checkOwnSeats(t *testing.T, o impl.Office, x impl.Order) int {
	t.Helper()
	ticket := checkTicketFor(t, o, x.Id)
	if x.State != impl.OrderSold {
		return 0
	}
	seats := 0
	for i, r := range x.Rides {
		train := trainOf(o.Lines, r.Train)
		if train.Seats == 0 {
			continue
		}
		seats++
		a, b, _ := wantCut(train, r.From, r.To)
		at := slices.IndexFunc(o.Holds, func(h impl.Hold) bool {
			return h == impl.Hold{Train: r.Train, Day: r.Day, Coach: h.Coach, Seat: h.Seat, A: a, B: b, Order: x.Id}
		})
		if at == -1 || !within(o.Holds[at].Coach, 1, train.Coaches) || !within(o.Holds[at].Seat, 1, train.Seats) {
			t.Fatalf("%+v of order %d has no hold of its own in %+v", r, x.Id, o.Holds)
		}
		if len(ticket.Legs) > 0 && (ticket.Legs[i].Coach != o.Holds[at].Coach || ticket.Legs[i].Seat != o.Holds[at].Seat) {
			t.Errorf("by %+v the ticket of order %d is %+v", o.Holds[at], x.Id, ticket)
		}
	}
	return seats
}

func TestOfficeConstants(t *testing.T) {
	if impl.MaxOrders != 100 || impl.OrderSold != 1 || impl.OrderBack != 2 || impl.OrderChanged != 3 {
		t.Error("orders")
	}
	said := [8]int{impl.SaidDone, impl.SaidBad, impl.SaidWay, impl.SaidFare, impl.SaidSeat, impl.SaidFull, impl.SaidNone, impl.SaidLate}
	kinds := [4]int{impl.OfficeSell, impl.OfficeChange, impl.OfficeBack, impl.OfficeDay}
	if said != [8]int{0, 1, 2, 3, 4, 5, 6, 7} || kinds != [4]int{0, 1, 2, 3} {
		t.Errorf("said are %v, kinds %v", said, kinds)
	}
}

func checkNoStart(t *testing.T, lines []impl.Train, tariff []impl.Edge, today int) {
	t.Helper()
	if o, ok := impl.OfficeStart(lines, tariff, today); ok || !sameOffice(o, impl.Office{}) {
		t.Errorf("OfficeStart(%+v, %+v, %d) = %+v, %t", lines, tariff, today, o, ok)
	}
}

func TestOfficesBegin(t *testing.T) {
	for _, today := range []int{0, 1, startDay, 89999, 90000} {
		officeOf(t, smallLines(), smallTariff(), today)
		officeOf(t, nil, nil, today)
		officeOf(t, []impl.Train{}, []impl.Edge{}, today)
		officeOf(t, manyTrains(40), lineOf(200, 1000000), today)
	}
	for _, today := range []int{math.MinInt, -90000, -1, 90001, 99999, math.MaxInt} {
		checkNoStart(t, smallLines(), smallTariff(), today)
		checkNoStart(t, nil, nil, today)
	}
	wrongLines := [][]impl.Train{manyTrains(41), backwards(smallLines()), {{}}, {threeStops(), threeStops()}, {seated(threeStops(), 1, 0)}, {trainBy(10, 127, 1, 60, 60)}}
	for _, lines := range wrongLines {
		checkNoStart(t, lines, smallTariff(), startDay)
		checkNoStart(t, lines, nil, 90001)
	}
	for _, tariff := range [][]impl.Edge{lineOf(201, 1), {{}}, tariffBy(1, 1, 5), tariffBy(1, 2, -1), tariffBy(1, 2, 1000001), tariffBy(1, 2, 5, 0, 1, 5)} {
		checkNoStart(t, smallLines(), tariff, startDay)
		checkNoStart(t, wrongLines[0], tariff, startDay)
	}
}

func TestASession(t *testing.T) {
	o := smallOffice(t)
	o = checkReply(t, o, sellOf(11, wholeWay(14), plainWay(14)), 1, 1350)
	first := impl.Order{Id: 1, State: impl.OrderSold, Name: "A B", Class: 2, Rides: []impl.Ride{wholeWay(14), plainWay(14)}, Price: 1350, Paid: 1350, First: 14}
	hold := impl.Hold{Train: 10, Day: 14, Coach: 1, Seat: 1, A: 0, B: 2, Order: 1}
	if !slices.EqualFunc(o.Orders, []impl.Order{first}, sameOrder) || !slices.Equal(o.Holds, []impl.Hold{hold}) {
		t.Fatalf("sold are %+v with %+v", o.Orders, o.Holds)
	}
	o = checkReply(t, o, impl.Want{Request: 7, Order: 1, Name: "C", Class: 1, Card: impl.CardQuarter, Rides: []impl.Ride{rideOn(10, 6, 1, 2)}}, 2, 600)
	second := impl.Order{Id: 2, State: impl.OrderSold, Name: "C", Class: 1, Card: impl.CardQuarter, Rides: []impl.Ride{rideOn(10, 6, 1, 2)}, Price: 600, Paid: 600, First: 6}
	if !slices.EqualFunc(o.Orders, []impl.Order{first, second}, sameOrder) {
		t.Fatalf("sold are %+v", o.Orders)
	}
	o = checkReply(t, o, impl.Want{Kind: impl.OfficeChange, Request: 8, Order: 2, Name: "D", Class: 2, Card: impl.CardHalf, Rides: []impl.Ride{rideOn(10, 7, 2, 3)}}, 3, 840-600+150)
	third := impl.Order{Id: 3, State: impl.OrderSold, Name: "C", Class: 1, Card: impl.CardQuarter, Rides: []impl.Ride{rideOn(10, 7, 2, 3)}, Price: 840, Paid: 990, First: 7}
	second.State, second.Paid = impl.OrderChanged, 0
	if !slices.EqualFunc(o.Orders, []impl.Order{first, second, third}, sameOrder) || !slices.Equal(o.Holds, []impl.Hold{hold, {Train: 10, Day: 7, Coach: 1, Seat: 1, A: 1, B: 2, Order: 3}}) {
		t.Fatalf("behind a change there are %+v with %+v", o.Orders, o.Holds)
	}
	o = checkReply(t, o, dayOf(9, 7), 0, 0)
	o = checkReply(t, o, backOf(10, 3), 3, 495-990)
	third.State, third.Paid = impl.OrderBack, 495
	if !slices.EqualFunc(o.Orders, []impl.Order{first, second, third}, sameOrder) || !slices.Equal(o.Holds, []impl.Hold{hold}) || o.Today != 7 || impl.Income(o) != 1845 {
		t.Fatalf("at the end there are %+v", o)
	}
	checkRight(t, o)
}

func TestRequestsAtTheirBounds(t *testing.T) {
	o := smallOffice(t)
	kinds := []impl.Want{sellOf(0, wholeWay(14)), changeOf(0, 1, wholeWay(15)), backOf(0, 1), dayOf(0, 8), {Kind: 4}, {Kind: -1}}
	for _, request := range []int{math.MinInt, -300, -2, -1, 0} {
		for _, w := range kinds {
			w.Request = request
			checkUntold(t, o, w, impl.Reply{Request: request, Said: impl.SaidBad})
		}
	}
	for _, request := range []int{1, 2, 300, 301, 1000000000, math.MaxInt} {
		o = checkAll(t, o, sellOf(request, plainWay(14)))
	}
}

func TestKindsAtTheirBounds(t *testing.T) {
	o := checkAll(t, smallOffice(t), sellOf(1, wholeWay(14)))
	for _, kind := range []int{math.MinInt, -4, -2, -1, 4, 5, 7, 256, math.MaxInt} {
		w := sellOf(2, wholeWay(14))
		w.Kind, w.Order = kind, 1
		checkUntold(t, o, w, impl.Reply{Request: 2, Said: impl.SaidBad})
	}
	for kind, reply := range []impl.Reply{{Order: 2, Amount: 1100}, {Order: 2}, {Order: 1, Amount: -1100}, {}} {
		w := sellOf(2, wholeWay(14))
		w.Kind, w.Order = kind, 1
		if kind == impl.OfficeDay {
			w.Order = 6
		}
		checkReply(t, o, w, reply.Order, reply.Amount)
	}
}

// Whatever comes with a request that was told, it is answered as it was, be
// the office full or on another day.
func TestARequestThatComesAgain(t *testing.T) {
	o := checkAll(t, smallOffice(t), sellOf(3, wholeWay(14)), sellOf(4, wholeWay(14)))
	o = checkRefused(t, o, sellOf(5, wholeWay(14)), impl.SaidSeat)
	o = checkRefused(t, o, impl.Want{Request: 6, Name: "\n"}, impl.SaidBad)
	o = checkAll(t, o, changeOf(7, 1, wholeWay(6)), backOf(8, 2), dayOf(9, 15))
	told := slices.Clone(o.Told)
	if len(told) != 7 {
		t.Fatalf("told are %+v", told)
	}
	for i := range mostTold - len(told) {
		o, _ = impl.OfficeDo(o, backOf(100+i, 9))
		for _, r := range told {
			checkUntold(t, o, impl.Want{Kind: i%6 - 1, Request: r.Request, Order: 3, Name: "X", Class: 2, Rides: []impl.Ride{plainWay(20)}}, r)
			checkUntold(t, o, impl.Want{Request: r.Request, Name: "\x00"}, r)
		}
	}
	if len(o.Told) != mostTold {
		t.Fatalf("%d are told", len(o.Told))
	}
	for _, r := range o.Told {
		checkUntold(t, o, sellOf(r.Request, plainWay(20)), r)
	}
	checkRight(t, o)
}

func TestRepliesAreCounted(t *testing.T) {
	o := smallOffice(t)
	if len(o.Told) != 0 {
		t.Fatalf("told at the beginning: %+v", o.Told)
	}
	for i := range mostTold - 2 {
		o, _ = impl.OfficeDo(o, backOf(1+i, i))
	}
	o = checkRefused(t, o, sellOf(901), impl.SaidWay)
	if len(o.Told) != 299 {
		t.Fatalf("%d are told", len(o.Told))
	}
	for _, w := range []impl.Want{sellOf(902, wholeWay(14)), changeOf(902, 1), backOf(902, 0), dayOf(902, 6)} {
		if next, r := checkDo(t, o, w); len(next.Told) != 300 || next.Told[299] != r {
			t.Errorf("%+v is told as %+v", w, r)
		}
	}
	o = checkReply(t, o, sellOf(902, wholeWay(14)), 1, 1100)
	checkRight(t, o)
	for _, w := range []impl.Want{sellOf(903, wholeWay(14)), changeOf(903, 1, wholeWay(15)), backOf(903, 1), dayOf(903, 6), {Kind: 9, Request: 903}} {
		checkUntold(t, o, w, impl.Reply{Request: 903, Said: impl.SaidBad})
	}
	checkUntold(t, o, backOf(902, 1), impl.Reply{Request: 902, Order: 1, Amount: 1100})
	o.Told = append(o.Told, impl.Reply{Request: 5000})
	checkUntold(t, o, sellOf(903, wholeWay(14)), impl.Reply{Request: 903, Said: impl.SaidBad})
	checkUntold(t, o, sellOf(5000, wholeWay(14)), impl.Reply{Request: 5000})
}

func TestNamesOfASale(t *testing.T) {
	o := smallOffice(t)
	for _, name := range someNames() {
		w := sellOf(1, plainWay(14))
		w.Name = name
		next := checkReply(t, o, w, 1, 250)
		if next.Orders[0].Name != name {
			t.Errorf("the name %q is now %q", name, next.Orders[0].Name)
		}
		next = checkAll(t, next, changeOf(2, 1, plainWay(15)))
		if got, _ := impl.TicketFor(next, 2); got.Name != name || next.Orders[1].Name != name {
			t.Errorf("the name %q is now %q", name, got.Name)
		}
	}
	for _, name := range []string{strings.Repeat("x", 41), strings.Repeat(" ", 41), strings.Repeat("x", 5000), "\n", "A\n", "\x1f", "A\x7f", "\x00", "é", "\x80", "\xff", "A\tB"} {
		w := sellOf(1, plainWay(14))
		w.Name = name
		checkRefused(t, o, w, impl.SaidBad)
	}
}

func TestRatesOfASale(t *testing.T) {
	o := smallOffice(t)
	for class, fares := range [][]int{{}, {1760, 1320, 880, 880}, {1100, 830, 550, 550}} {
		for card, fare := range fares {
			w := sellOf(1, wholeWay(14))
			w.Class, w.Card = class, card
			next := checkReply(t, o, w, 1, fare)
			if x := next.Orders[0]; x.Class != class || x.Card != card {
				t.Errorf("%+v is sold as %+v", w, x)
			}
		}
	}
	for _, class := range append(noClasses, 1, 2) {
		for _, card := range append(noCards, 0, 3) {
			if _, ok := wantRates[[2]int{class, card}]; ok {
				continue
			}
			w := sellOf(1, wholeWay(14))
			w.Class, w.Card = class, card
			checkRefused(t, o, w, impl.SaidBad)
		}
	}
}

func TestRidesOfASale(t *testing.T) {
	o := smallOffice(t)
	checkReply(t, o, sellOf(1, rideOn(10, 5, 1, 2), rideOn(10, 5, 2, 3), plainWay(5)), 1, 1350)
	for _, rides := range [][]impl.Ride{nil, {}, {{}}, {rideOn(10, 5, 3, 1)}, {rideOn(30, 5, 1, 3)}, {wholeWay(5), wholeWay(5)}, {plainWay(5), wholeWay(5)}, {wholeWay(5), plainWay(4)}, slices.Repeat([]impl.Ride{wholeWay(5)}, 7)} {
		checkRefused(t, o, sellOf(1, rides...), impl.SaidWay)
	}
	long := officeOf(t, chain(9, 3), lineOf(9, 10), 14)
	for n := range 10 {
		w := sellOf(1, ridesOfChain(n, 14)...)
		if within(n, 1, 6) {
			checkReply(t, long, w, 1, 10*n)
		} else {
			checkRefused(t, long, w, impl.SaidWay)
		}
	}
}

func TestTheFirstDayOfASale(t *testing.T) {
	for _, today := range []int{0, 1, startDay, 89999, 90000} {
		o := officeOf(t, smallLines(), smallTariff(), today)
		for _, day := range []int{today, today + 1, today + 7, 90000, 90001, 99999} {
			next := checkReply(t, o, sellOf(1, wholeWay(day)), 1, 1100)
			if next.Orders[0].First != day || next.Holds[0].Day != day {
				t.Errorf("sold for %d: %+v", day, next)
			}
		}
		for _, day := range []int{math.MinInt, today - 7, today - 1, 100000, math.MaxInt} {
			checkRefused(t, o, sellOf(1, wholeWay(day)), impl.SaidWay)
		}
	}
}

// nightLines has a train that sets out a day ahead of the one that leads to it.
func nightLines() []impl.Train {
	return []impl.Train{seated(shuttle(10, daily, 1, 60, 2, 100), 1, 2), seated(trainBy(20, daily, 5, 1000, 1000, 2, 1600, 1610, 3, 1700, 1700), 1, 2)}
}

func TestOnlyTheFirstRideIsHeldAgainstToday(t *testing.T) {
	o := officeOf(t, nightLines(), smallTariff(), startDay)
	o = checkReply(t, o, sellOf(1, rideOn(10, 5, 1, 2), rideOn(20, 4, 2, 3)), 1, 1100)
	checkNoTicket(t, o, 1)
	checkRefused(t, o, sellOf(2, rideOn(20, 4, 2, 3)), impl.SaidWay)
	checkAll(t, o, changeOf(2, 1, rideOn(10, 5, 1, 2), rideOn(20, 4, 2, 3)), backOf(3, 2))
}

func TestFaresOfASale(t *testing.T) {
	lines := []impl.Train{shuttle(10, daily, 1, 0, 11, 10), shuttle(20, daily, 11, 20, 1, 30), shuttle(30, daily, 1, 0, 12, 10), shuttle(40, daily, 1, 0, 99, 10)}
	o := officeOf(t, lines, lineOf(11, 1000000), startDay)
	there, back := rideOn(10, 5, 1, 11), rideOn(20, 5, 11, 1)
	checkReply(t, o, sellOf(1, there), 1, impl.MaxFare)
	checkReply(t, o, sellOf(1, there, back), 1, 0)
	checkReply(t, o, sellOf(1, back), 1, impl.MaxFare)
	checkRefused(t, o, sellOf(1, rideOn(30, 5, 1, 12)), impl.SaidFare)
	checkRefused(t, o, sellOf(1, rideOn(40, 5, 1, 99)), impl.SaidFare)
	w := sellOf(1, there)
	w.Class = 1
	checkRefused(t, o, w, impl.SaidFare)
	w.Card = impl.CardHalf
	checkReply(t, o, w, 1, 8000000)
	o.Tariff = append(o.Tariff, impl.Edge{})
	checkRefused(t, o, sellOf(1, there), impl.SaidFare)
}

// plainOrders are so many orders on a train without seats.
func plainOrders(t *testing.T, n int) impl.Office {
	t.Helper()
	o := smallOffice(t)
	for i := range n {
		var r impl.Reply
		o, r = impl.OfficeDo(o, sellOf(1+i, plainWay(14)))
		if r != (impl.Reply{Request: 1 + i, Order: 1 + i, Amount: 250}) {
			t.Fatalf("the sale of order %d said %+v", 1+i, r)
		}
	}
	checkRight(t, o)
	return o
}

func TestOrdersAreCounted(t *testing.T) {
	o := plainOrders(t, impl.MaxOrders-1)
	checkReply(t, o, sellOf(500, wholeWay(14)), 100, 1100)
	checkReply(t, o, changeOf(500, 99, wholeWay(14)), 100, 850)
	o = checkReply(t, o, changeOf(500, 1, plainWay(15)), 100, 0)
	o = checkRefused(t, o, sellOf(501, wholeWay(14)), impl.SaidFull)
	o = checkRefused(t, o, sellOf(502, plainWay(14)), impl.SaidFull)
	o = checkRefused(t, o, changeOf(503, 100, plainWay(16)), impl.SaidFull)
	o = checkRefused(t, o, changeOf(504, 1, plainWay(16)), impl.SaidNone)
	o = checkAll(t, o, backOf(505, 100), backOf(506, 2), dayOf(507, 6))
	o = checkRefused(t, o, sellOf(508, plainWay(14)), impl.SaidFull)
	o.Orders = append(o.Orders, impl.Order{Id: 101, State: impl.OrderSold, Class: 2, First: 14})
	checkRefused(t, o, sellOf(509, plainWay(14)), impl.SaidFull)
	checkRefused(t, o, changeOf(509, 101, plainWay(14)), impl.SaidFull)
	checkReply(t, o, backOf(509, 101), 101, 0)
}

func TestSeatsOfASale(t *testing.T) {
	o := shortOffice(t)
	one := checkReply(t, o, sellOf(1, rideOn(10, 5, 1, 2)), 1, 500)
	checkRefused(t, one, sellOf(2, rideOn(10, 5, 1, 2)), impl.SaidSeat)
	checkRefused(t, one, sellOf(2, wholeWay(5)), impl.SaidSeat)
	checkReply(t, one, sellOf(2, wholeWay(6)), 2, 1100)
	both := checkReply(t, one, sellOf(2, rideOn(10, 5, 2, 3)), 2, 700)
	checkRefused(t, both, sellOf(3, rideOn(10, 5, 2, 3)), impl.SaidSeat)
	freed := checkAll(t, both, backOf(3, 1))
	checkRefused(t, freed, sellOf(4, wholeWay(5)), impl.SaidSeat)
	checkReply(t, freed, sellOf(4, rideOn(10, 5, 1, 2)), 3, 500)
	small := checkAll(t, smallOffice(t), sellOf(1, wholeWay(5)))
	small = checkReply(t, small, sellOf(2, wholeWay(5)), 2, 1100)
	small = checkRefused(t, small, sellOf(3, wholeWay(5)), impl.SaidSeat)
	small = checkRefused(t, small, sellOf(4, wholeWay(5), plainWay(5)), impl.SaidSeat)
	checkReply(t, small, sellOf(5, plainWay(5)), 3, 250)
}

// Two rides of one sale on one train: the second sees the hold of the first.
func TestTwoRidesThatWantTheLastSeat(t *testing.T) {
	one, two := rideOn(10, 5, 1, 2), rideOn(10, 5, 2, 3)
	o := shortOffice(t)
	next := checkReply(t, o, sellOf(1, one, two), 1, 1100)
	if want := []impl.Hold{{Train: 10, Day: 5, Coach: 1, Seat: 1, A: 0, B: 1, Order: 1}, {Train: 10, Day: 5, Coach: 1, Seat: 1, A: 1, B: 2, Order: 1}}; !slices.Equal(next.Holds, want) {
		t.Errorf("the holds are %+v", next.Holds)
	}
	behind := checkAll(t, o, sellOf(1, two))
	checkRefused(t, behind, sellOf(2, one, two), impl.SaidSeat)
	checkReply(t, behind, sellOf(2, one), 2, 500)
	ahead := checkAll(t, o, sellOf(1, one))
	checkRefused(t, ahead, sellOf(2, one, two), impl.SaidSeat)
	small := checkAll(t, smallOffice(t), sellOf(1, two))
	small = checkAll(t, small, sellOf(2, one, two))
	seats := []int{small.Holds[1].Seat, small.Holds[2].Seat}
	if !slices.Equal(seats, []int{1, 2}) {
		t.Errorf("the seats are %v: first the tightest, beside order 1, then the one that is left", seats)
	}
	checkRight(t, small)
}

func TestASaleTakesTheTightestSeat(t *testing.T) {
	lines := []impl.Train{seatTrain(2, 3, 6)}
	var tariff []impl.Edge
	for station := 101; station < 106; station++ {
		tariff = append(tariff, impl.Edge{A: station, B: station + 1, Cost: 100})
	}
	o := officeOf(t, lines, tariff, startDay)
	for i, n := range [][4]int{{101, 103, 1, 1}, {102, 104, 1, 2}, {104, 106, 1, 2}, {103, 105, 1, 1}, {101, 102, 1, 2}, {101, 106, 1, 3}, {105, 106, 1, 1}, {102, 103, 2, 1}} {
		o = checkAll(t, o, sellOf(1+i, rideOn(10, 5, n[0], n[1])))
		if h := o.Holds[i]; h.Coach != n[2] || h.Seat != n[3] {
			t.Errorf("from %d to %d coach %d seat %d is taken, want %v", n[0], n[1], h.Coach, h.Seat, n[2:])
		}
	}
}

// fullHolds has so many holds, of orders with up to six rides each.
func fullHolds(t *testing.T, holds int) impl.Office {
	t.Helper()
	var lines []impl.Train
	for _, x := range chain(6, 3) {
		lines = append(lines, seated(x, 1, 80))
	}
	lines = append(lines, shuttle(50, daily, 1, 0, 2, 10))
	o := officeOf(t, lines, lineOf(9, 10), startDay)
	for len(o.Holds) < holds {
		var r impl.Reply
		o, r = impl.OfficeDo(o, sellOf(1+len(o.Orders), ridesOfChain(min(6, holds-len(o.Holds)), 14)...))
		if r.Said != impl.SaidDone {
			t.Fatalf("with %d holds: %+v", len(o.Holds), r)
		}
	}
	checkRight(t, o)
	return o
}

func TestHoldsOfAnOfficeAreCounted(t *testing.T) {
	o := fullHolds(t, impl.MaxHolds-1)
	orders := len(o.Orders)
	one, two, none := ridesOfChain(1, 14), ridesOfChain(2, 14), rideOn(50, 14, 1, 2)
	checkRefused(t, o, sellOf(800, two...), impl.SaidSeat)
	o = checkReply(t, o, sellOf(801, one...), orders+1, 10)
	if len(o.Holds) != impl.MaxHolds {
		t.Fatalf("there are %d holds", len(o.Holds))
	}
	o = checkRefused(t, o, sellOf(802, one...), impl.SaidSeat)
	o = checkRefused(t, o, sellOf(803, two...), impl.SaidSeat)
	o = checkReply(t, o, sellOf(804, none), orders+2, 10)
	o = checkRefused(t, o, changeOf(805, orders+1, two...), impl.SaidSeat)
	o = checkRefused(t, o, changeOf(806, orders+2, one...), impl.SaidSeat)
	o = checkReply(t, o, changeOf(807, orders+1, one...), orders+3, 0)
	o = checkReply(t, o, changeOf(808, 1, two...), orders+4, 20-60)
	if len(o.Holds) != impl.MaxHolds-4 {
		t.Fatalf("there are %d holds", len(o.Holds))
	}
	o = checkReply(t, o, sellOf(809, two...), orders+5, 20)
	checkRight(t, o)
}

func TestAChangeIntoTheSeatOfItsOldOrder(t *testing.T) {
	o := checkAll(t, shortOffice(t), sellOf(1, wholeWay(14)))
	checkRefused(t, o, sellOf(2, rideOn(10, 14, 2, 3)), impl.SaidSeat)
	next := checkReply(t, o, changeOf(2, 1, rideOn(10, 14, 2, 3)), 2, 700-1100)
	if want := []impl.Hold{{Train: 10, Day: 14, Coach: 1, Seat: 1, A: 1, B: 2, Order: 2}}; !slices.Equal(next.Holds, want) {
		t.Errorf("the holds are %+v", next.Holds)
	}
	next = checkReply(t, next, changeOf(3, 2, wholeWay(14)), 3, 400)
	next = checkReply(t, next, changeOf(4, 3, rideOn(10, 14, 1, 2), rideOn(10, 14, 2, 3)), 4, 0)
	if len(next.Holds) != 2 || impl.Income(next) != 1100 {
		t.Errorf("at the end there is %+v", next)
	}
	checkRight(t, next)
}

// The holds of other orders stand where they stood, the new ones behind them.
func TestHoldsStandInTheirOrder(t *testing.T) {
	o := smallOffice(t)
	for i := range 5 {
		o = checkAll(t, o, sellOf(1+i, rideOn(10, 14+i, 1, 2), rideOn(10, 14+i, 2, 3)))
	}
	byOrder := func(o impl.Office) []int {
		var list []int
		for _, h := range o.Holds {
			list = append(list, h.Order)
		}
		return list
	}
	o = checkAll(t, o, changeOf(6, 2, wholeWay(15)), backOf(7, 4), changeOf(8, 1, plainWay(14)))
	if got := byOrder(o); !slices.Equal(got, []int{3, 3, 5, 5, 6}) {
		t.Errorf("the holds are of the orders %v", got)
	}
}

// The old order and its holds, among those of others, are as they were.
func TestAChangeThatIsRefused(t *testing.T) {
	lines := append(smallLines(), seated(shuttle(30, daily, 1, 0, 8, 10), 1, 1), seated(shuttle(40, daily, 1, 0, 4, 10), 1, 1))
	o := officeOf(t, lines, smallTariff(), startDay)
	o = checkAll(t, o, sellOf(1, wholeWay(14)), sellOf(2, rideOn(10, 14, 1, 2), rideOn(10, 14, 2, 3)), sellOf(3, wholeWay(15)), sellOf(4, wholeWay(15)), sellOf(5, rideOn(40, 14, 1, 4)))
	order := slices.Clone(o.Holds)
	for _, n := range []struct {
		said  int
		rides []impl.Ride
	}{
		{impl.SaidWay, nil},
		{impl.SaidWay, []impl.Ride{wholeWay(4)}},
		{impl.SaidWay, []impl.Ride{rideOn(10, 14, 3, 1)}},
		{impl.SaidFare, []impl.Ride{rideOn(30, 14, 1, 8)}},
		{impl.SaidSeat, []impl.Ride{wholeWay(15)}},
		{impl.SaidSeat, []impl.Ride{wholeWay(15), plainWay(15)}},
		{impl.SaidSeat, []impl.Ride{rideOn(40, 14, 1, 4)}},
	} {
		for number := 1; number <= 2; number++ {
			next := checkRefused(t, o, changeOf(6, number, n.rides...), n.said)
			if !slices.Equal(next.Holds, order) || next.Orders[number-1].State != impl.OrderSold {
				t.Errorf("behind a change that is refused there is %+v", next)
			}
			checkRight(t, next)
		}
	}
	checkReply(t, o, changeOf(6, 3, wholeWay(15)), 6, 0)
}

func TestNumbersOfOrders(t *testing.T) {
	o := checkAll(t, smallOffice(t), sellOf(1, wholeWay(14)), sellOf(2, plainWay(14)), sellOf(3, wholeWay(15)), sellOf(4, wholeWay(16)), sellOf(5, plainWay(17)))
	for _, number := range []int{math.MinInt, -5, -1, 0, 6, 7, 100, 101, math.MaxInt} {
		checkRefused(t, o, backOf(6, number), impl.SaidNone)
		checkRefused(t, o, changeOf(6, number, plainWay(14)), impl.SaidNone)
	}
	for number := 1; number <= 5; number++ {
		checkReply(t, o, backOf(6, number), number, -o.Orders[number-1].Paid)
		checkReply(t, o, changeOf(6, number, plainWay(18)), 6, 250-o.Orders[number-1].Paid)
	}
	o = checkAll(t, o, changeOf(6, 1, wholeWay(14)), backOf(7, 5))
	for _, number := range []int{1, 5} {
		o = checkRefused(t, o, backOf(10*number, number), impl.SaidNone)
		o = checkRefused(t, o, changeOf(10*number+1, number, plainWay(14)), impl.SaidNone)
	}
	o = checkAll(t, o, changeOf(8, 6, plainWay(14)), backOf(9, 7))
	o = checkRefused(t, o, backOf(12, 6), impl.SaidNone)
	o = checkRefused(t, o, changeOf(13, 7, plainWay(14)), impl.SaidNone)
	empty := smallOffice(t)
	checkRefused(t, empty, backOf(1, 1), impl.SaidNone)
	checkRefused(t, empty, changeOf(1, 1, plainWay(14)), impl.SaidNone)
}

// The fees of 1110 and of what was paid for a change, by the days ahead.
func TestFeesByTheDays(t *testing.T) {
	tariff := tariffBy(1, 3, 1110, 3, 4, 250)
	o := checkAll(t, officeOf(t, smallLines(), tariff, startDay), sellOf(1, wholeWay(30)))
	for _, n := range []struct{ days, fee, next int }{{20, 0, 0}, {9, 0, 0}, {8, 0, 0}, {7, 278, 347}, {2, 278, 347}, {1, 278, 347}, {0, 555, 833}} {
		now := checkAll(t, o, dayOf(2, 30-n.days))
		back := checkReply(t, now, backOf(3, 1), 1, n.fee-1110)
		if x := back.Orders[0]; x.Paid != n.fee || x.Price != 1110 || x.State != impl.OrderBack || len(back.Holds) != 0 || impl.Income(back) != n.fee {
			t.Errorf("given back %d days ahead: %+v", n.days, back)
		}
		changed := checkReply(t, now, changeOf(3, 1, wholeWay(30), plainWay(30)), 2, 250+n.fee)
		if x := changed.Orders[1]; x.Paid != 1360+n.fee || x.Price != 1360 || changed.Orders[0].Paid != 0 || changed.Orders[0].Price != 1110 || impl.Income(changed) != x.Paid {
			t.Errorf("changed %d days ahead: %+v", n.days, changed)
		}
		again := checkAll(t, now, changeOf(4, 1, wholeWay(30)))
		if n.fee > 0 {
			checkReply(t, again, backOf(5, 2), 2, n.next-1110-n.fee)
		}
		checkReply(t, again, changeOf(5, 2, wholeWay(30)), 3, n.next-n.fee)
	}
	late := checkAll(t, o, dayOf(2, 31))
	checkRefused(t, late, backOf(3, 1), impl.SaidLate)
	checkRefused(t, late, changeOf(3, 1, wholeWay(31)), impl.SaidLate)
	later := checkAll(t, late, dayOf(3, 90000))
	checkRefused(t, later, backOf(4, 1), impl.SaidLate)
}

// A change looks at the First of the old order, wherever its new rides go.
func TestTheFirstDayOfAnOldOrder(t *testing.T) {
	o := checkAll(t, smallOffice(t), sellOf(1, wholeWay(6)), sellOf(2, wholeWay(60)))
	if next := checkReply(t, o, changeOf(3, 1, wholeWay(61)), 3, 275); next.Orders[2].Paid != 1375 || next.Orders[2].First != 61 {
		t.Errorf("from day 6 to day 61: %+v", next.Orders)
	}
	if next := checkReply(t, o, changeOf(3, 2, wholeWay(5)), 3, 0); next.Orders[2].Paid != 1100 || next.Orders[2].First != 5 {
		t.Errorf("from day 60 to day 5: %+v", next.Orders)
	}
}

// What was paid may come to more than the greatest fare; Fee of it is -1.
func TestWhatWasPaidAboveTheGreatestFare(t *testing.T) {
	o := officeOf(t, []impl.Train{shuttle(10, daily, 1, 0, 11, 10)}, lineOf(10, 1000000), startDay)
	there := rideOn(10, 6, 1, 11)
	o = checkAll(t, o, sellOf(1, there))
	o = checkReply(t, o, changeOf(2, 1, there), 2, 2500000)
	if o.Orders[1].Paid != 12500000 {
		t.Errorf("paid are %d", o.Orders[1].Paid)
	}
	back := checkReply(t, o, backOf(3, 2), 2, -12500001)
	if back.Orders[1].Paid != -1 || impl.Income(back) != -1 {
		t.Errorf("given back: %+v", back.Orders)
	}
	again := checkReply(t, o, changeOf(3, 2, there), 3, 10000000-12500000-1)
	if again.Orders[2].Paid != 9999999 || impl.Income(again) != 9999999 {
		t.Errorf("changed again: %+v", again.Orders)
	}
	checkRight(t, back)
	checkRight(t, again)
}

func TestDaysOfAnOffice(t *testing.T) {
	for _, today := range []int{0, 1, startDay, 89999} {
		o := officeOf(t, smallLines(), smallTariff(), today)
		for _, day := range []int{today + 1, 90000} {
			if next := checkReply(t, o, dayOf(1, day), 0, 0); next.Today != day {
				t.Errorf("from day %d to day %d: %d", today, day, next.Today)
			}
		}
		for _, day := range []int{math.MinInt, -1, today - 1, today, 90001, 99999, math.MaxInt} {
			checkRefused(t, o, dayOf(1, day), impl.SaidBad)
		}
	}
	last := officeOf(t, nil, nil, 90000)
	for _, day := range []int{0, 89999, 90000, 90001, math.MaxInt} {
		checkRefused(t, last, dayOf(1, day), impl.SaidBad)
	}
	o := checkAll(t, smallOffice(t), sellOf(1, wholeWay(6)), dayOf(2, 6), dayOf(3, 7), dayOf(4, 90000))
	if x := o.Orders[0]; x.State != impl.OrderSold || len(o.Holds) != 1 {
		t.Errorf("behind its day an order is %+v", x)
	}
	rides := dayOf(5, 6)
	rides.Rides, rides.Name, rides.Class = []impl.Ride{{}}, "\n", 9
	checkReply(t, smallOffice(t), rides, 0, 0)
}

// crowdedOffice has 100 orders, no free seat on day 14, a station without a
// way, and an order that is late and changed already.
func crowdedOffice(t *testing.T, orders int) impl.Office {
	t.Helper()
	lines := append(smallLines(), seated(shuttle(30, daily, 1, 0, 8, 10), 1, 1))
	o := officeOf(t, lines, smallTariff(), 0)
	o = checkAll(t, o, sellOf(1, wholeWay(14)), sellOf(2, wholeWay(14)), sellOf(3, plainWay(4)), changeOf(4, 3, plainWay(3)), sellOf(5, wholeWay(20)))
	for i := range orders - len(o.Orders) {
		o, _ = impl.OfficeDo(o, sellOf(100+i, plainWay(14)))
	}
	if len(o.Orders) != orders {
		t.Fatalf("there are %d orders", len(o.Orders))
	}
	return checkAll(t, o, dayOf(6, startDay))
}

// Of several reasons the one that the chapter names first is told.
func TestWhichReasonIsTold(t *testing.T) {
	none := "\n"
	late := rideOn(30, 4, 1, 8)
	unknown := []impl.Ride{rideOn(30, 14, 1, 8), wholeWay(14)}
	for _, orders := range []int{50, 100} {
		o := crowdedOffice(t, orders)
		full := orders == impl.MaxOrders
		sale := func(name string, class int, rides ...impl.Ride) impl.Want {
			return impl.Want{Request: 900, Name: name, Class: class, Rides: rides}
		}
		pick := func(whenFull, before int) int {
			if full {
				return whenFull
			}
			return before
		}
		for i, n := range []struct {
			w    impl.Want
			said int
		}{
			{sale(none, 3), impl.SaidBad},
			{sale(none, 2, late), impl.SaidBad},
			{sale("A", 3, unknown...), impl.SaidBad},
			{sale("A", 0, wholeWay(14)), impl.SaidBad},
			{sale(none, 2, wholeWay(14)), impl.SaidBad},
			{sale("A", 2, late), impl.SaidWay},
			{sale("A", 2, unknown...), impl.SaidWay},
			{sale("A", 2, wholeWay(4)), impl.SaidWay},
			{sale("A", 2), impl.SaidWay},
			{sale("A", 2, rideOn(30, 14, 1, 8)), impl.SaidFare},
			{sale("A", 2, wholeWay(14)), pick(impl.SaidFull, impl.SaidSeat)},
			{sale("A", 2, plainWay(14)), pick(impl.SaidFull, impl.SaidDone)},
			{changeOf(900, 0), impl.SaidNone},
			{changeOf(900, 3, late), impl.SaidNone},
			{changeOf(900, 3, plainWay(14)), impl.SaidNone},
			{changeOf(900, 4), impl.SaidLate},
			{changeOf(900, 4, rideOn(30, 14, 1, 8)), impl.SaidLate},
			{changeOf(900, 4, wholeWay(14)), impl.SaidLate},
			{changeOf(900, 4, plainWay(14)), impl.SaidLate},
			{changeOf(900, 5, late), impl.SaidWay},
			{changeOf(900, 5, rideOn(30, 14, 1, 8)), impl.SaidFare},
			{changeOf(900, 5, wholeWay(14)), pick(impl.SaidFull, impl.SaidSeat)},
			{changeOf(900, 1, wholeWay(14)), pick(impl.SaidFull, impl.SaidDone)},
			{backOf(900, 3), impl.SaidNone},
			{backOf(900, 4), impl.SaidLate},
			{backOf(900, 5), impl.SaidDone},
			{dayOf(900, 4), impl.SaidBad},
		} {
			if _, r := checkDo(t, o, n.w); r.Said != n.said {
				t.Errorf("with %d orders, number %d: %+v said %+v, want %d", orders, i, n.w, r, n.said)
			}
			if n.said != impl.SaidDone {
				checkRefused(t, o, n.w, n.said)
			}
		}
	}
}

func TestReasonsOfAnOrderThatIsNotRight(t *testing.T) {
	o := checkAll(t, smallOffice(t), sellOf(1, wholeWay(14)))
	for _, put := range []func(x *impl.Order){
		func(x *impl.Order) { x.Name = "\n" },
		func(x *impl.Order) { x.Name = strings.Repeat("x", 41) },
		func(x *impl.Order) { x.Class = 3 },
		func(x *impl.Order) { x.Card = -1 },
	} {
		wrong := copiedOffice(o)
		put(&wrong.Orders[0])
		checkRefused(t, wrong, changeOf(2, 1, wholeWay(15)), impl.SaidBad)
		checkRefused(t, wrong, changeOf(2, 1), impl.SaidBad)
		checkReply(t, wrong, backOf(2, 1), 1, -1100)
		wrong.Orders[0].First = 4
		checkRefused(t, wrong, changeOf(2, 1), impl.SaidLate)
		wrong.Orders[0].State = 0
		checkRefused(t, wrong, changeOf(2, 1), impl.SaidNone)
	}
}

func TestRefusedWantsAreTold(t *testing.T) {
	o := smallOffice(t)
	var want []impl.Reply
	for i, n := range []struct {
		w    impl.Want
		said int
	}{
		{sellOf(31), impl.SaidWay}, {impl.Want{Request: 5, Name: "\n"}, impl.SaidBad}, {backOf(99, 1), impl.SaidNone}, {changeOf(2, 1, wholeWay(14)), impl.SaidNone},
		{dayOf(7, 5), impl.SaidBad}, {sellOf(1, rideOn(10, 5, 2, 1)), impl.SaidWay},
	} {
		o = checkRefused(t, o, n.w, n.said)
		want = append(want, impl.Reply{Request: n.w.Request, Said: n.said})
		if !slices.Equal(o.Told, want) {
			t.Errorf("behind %d wants there are told %+v", i+1, o.Told)
		}
	}
	if len(o.Orders) != 0 || len(o.Holds) != 0 || o.Today != startDay || impl.Income(o) != 0 {
		t.Errorf("refused wants left %+v", o)
	}
}

// busyOffice has orders of each state: 1 and 4 are sold, 2 is changed into 4,
// 3 is given back.
func busyOffice(t *testing.T) impl.Office {
	t.Helper()
	return checkAll(t, smallOffice(t),
		sellOf(1, wholeWay(14), plainWay(14)), sellOf(2, rideOn(10, 14, 1, 2)), sellOf(3, plainWay(9)),
		changeOf(4, 2, rideOn(10, 14, 2, 3), plainWay(15)), backOf(5, 3))
}

func TestOfficesThatAreRight(t *testing.T) {
	checkOffice(t, impl.Office{}, true)
	checkOffice(t, busyOffice(t), true)
	for _, today := range edgeNumbers {
		o := busyOffice(t)
		o.Today = today
		checkOffice(t, o, true)
	}
	o := busyOffice(t)
	o.Orders[0].Name, o.Orders[0].Class, o.Orders[0].Rides, o.Orders[0].Paid, o.Orders[2].State = "\n", 9, nil, math.MinInt, 0
	o.Told[0] = impl.Reply{Request: 77, Said: 99, Order: -1, Amount: math.MaxInt}
	checkOffice(t, o, true)
}

// wrongs make a busyOffice one that is not right.
func wrongs() map[string]func(o *impl.Office) {
	return map[string]func(o *impl.Office){
		"lines that are not right":      func(o *impl.Office) { o.Lines[1].Days = 0 },
		"lines in another order":        func(o *impl.Office) { o.Lines = backwards(o.Lines) },
		"too many lines":                func(o *impl.Office) { o.Lines = manyTrains(41) },
		"a tariff that is not right":    func(o *impl.Office) { o.Tariff[3].Cost = -1 },
		"too many edges":                func(o *impl.Office) { o.Tariff = lineOf(201, 1) },
		"a hold that is not right":      func(o *impl.Office) { o.Holds[0].B = 20 },
		"two holds that meet":           func(o *impl.Office) { o.Holds[1] = o.Holds[0] },
		"a hold of no order":            func(o *impl.Office) { o.Holds[0].Order = 0 },
		"a hold of an order behind":     func(o *impl.Office) { o.Holds[0].Order = 5 },
		"a hold of a far order":         func(o *impl.Office) { o.Holds[0].Order = math.MaxInt },
		"a hold of one that is changed": func(o *impl.Office) { o.Holds[0].Order = 2 },
		"a hold of one given back":      func(o *impl.Office) { o.Holds[1].Order = 3 },
		"a hold of one of state 0":      func(o *impl.Office) { o.Orders[0].State = 0 },
		"a hold of one of state 4":      func(o *impl.Office) { o.Orders[3].State = 4 },
		"an order of another Id":        func(o *impl.Office) { o.Orders[2].Id = 4 },
		"a first order of Id 0":         func(o *impl.Office) { o.Orders[0].Id = 0 },
		"two orders of one Id":          func(o *impl.Office) { o.Orders[1].Id = 1 },
		"orders the other way round":    func(o *impl.Office) { o.Orders = backwards(o.Orders) },
		"a last order of the least Id":  func(o *impl.Office) { o.Orders[3].Id = math.MinInt },
		"a request told twice":          func(o *impl.Office) { o.Told[4].Request = 1 },
		"a request told twice in a row": func(o *impl.Office) { o.Told[1] = o.Told[0] },
	}
}

func TestOfficesThatAreNotRight(t *testing.T) {
	for name, put := range wrongs() {
		t.Run(name, func(t *testing.T) {
			o := busyOffice(t)
			put(&o)
			checkOffice(t, o, false)
		})
	}
}

func TestListsOfAnOfficeAtTheirBounds(t *testing.T) {
	for _, n := range []int{0, 1, 99, 100, 101, 300} {
		o := smallOffice(t)
		for i := range n {
			o.Orders = append(o.Orders, impl.Order{Id: i + 1, State: 1 + i%3})
		}
		checkOffice(t, o, n <= impl.MaxOrders)
	}
	for _, n := range []int{0, 1, 299, 300, 301, 1000} {
		o := smallOffice(t)
		for i := range n {
			o.Told = append(o.Told, impl.Reply{Request: 1000 - i})
		}
		checkOffice(t, o, n <= mostTold)
		if n > 0 {
			o.Told[n-1].Request = 1000
			checkOffice(t, o, n == 1)
		}
	}
	for _, n := range []int{399, 400, 401} {
		o := smallOffice(t)
		o.Holds = manyHolds(n)
		for i := range 7 {
			checkOffice(t, o, false)
			o.Orders = append(o.Orders, impl.Order{Id: i + 1, State: impl.OrderSold})
		}
		checkOffice(t, o, n <= impl.MaxHolds)
	}
}

func TestIncome(t *testing.T) {
	if got := impl.Income(busyOffice(t)); got != 1350+950+63 {
		t.Errorf("the income is %d", got)
	}
	if got := impl.Income(impl.Office{}); got != 0 {
		t.Errorf("the income of nothing is %d", got)
	}
	o := impl.Office{Told: []impl.Reply{{Amount: 9}}}
	for i, paid := range []int{5, -2, 0, 100, math.MaxInt - 200, 7} {
		o.Orders = append(o.Orders, impl.Order{Id: 9 - i, State: i, Price: 1000, Paid: paid})
	}
	if got := impl.Income(o); got != math.MaxInt-90 {
		t.Errorf("the income is %d", got)
	}
}

// The legs of a night train may be of a day ahead of the first ride's, and
// there is no ticket then; there is one where it sets out that day, or later.
func TestTicketsWithANightTrain(t *testing.T) {
	o := officeOf(t, nightLines(), smallTariff(), startDay)
	o = checkAll(t, o, sellOf(1, rideOn(10, 5, 1, 2), rideOn(20, 4, 2, 3)), sellOf(2, rideOn(10, 5, 1, 2), rideOn(20, 5, 2, 3)), sellOf(3, rideOn(10, 6, 1, 2), rideOn(20, 7, 2, 3)))
	if want := []impl.Ride{rideOn(10, 5, 1, 2), rideOn(20, 4, 2, 3)}; !slices.Equal(o.Orders[0].Rides, want) || len(impl.Held(o.Holds, 1)) != 2 {
		t.Errorf("the order is %+v", o.Orders[0])
	}
	checkNoTicket(t, o, 1)
	for id, days := range map[int][2]int{2: {5, 5}, 3: {6, 7}} {
		if got := checkTicketFor(t, o, id); got.Id != id || got.First != days[0] || got.Last != days[1] {
			t.Errorf("the ticket of order %d is %+v", id, got)
		}
	}
	o = checkAll(t, o, changeOf(4, 1, rideOn(10, 8, 1, 2), rideOn(20, 8, 2, 3)), changeOf(5, 3, rideOn(10, 8, 1, 2), rideOn(20, 7, 2, 3)))
	if got := checkTicketFor(t, o, 4); got.First != 8 || got.Last != 8 || len(got.Legs) != 2 {
		t.Errorf("the ticket of order 4 is %+v", got)
	}
	for _, id := range []int{1, 3, 5} {
		checkNoTicket(t, o, id)
	}
}

func TestTicketsOfOrders(t *testing.T) {
	o := busyOffice(t)
	want := impl.Ticket{Id: 1, Name: "A B", Class: 2, Price: 1350, First: 14, Last: 14, Legs: []impl.Leg{
		{Train: 10, Day: 14, From: 1, To: 3, Coach: 1, Seat: 1}, {Train: 20, Day: 14, From: 3, To: 4},
	}}
	if got := checkTicketFor(t, o, 1); !sameTicket(got, want) || !impl.TicketOk(got) {
		t.Errorf("the first ticket is %+v", got)
	}
	want = impl.Ticket{Id: 4, Name: "A B", Class: 2, Price: 950, First: 14, Last: 15, Legs: []impl.Leg{
		{Train: 10, Day: 14, From: 2, To: 3, Coach: 1, Seat: 2}, {Train: 20, Day: 15, From: 3, To: 4},
	}}
	got := checkTicketFor(t, o, 4)
	if !sameTicket(got, want) || !impl.TicketOk(got) {
		t.Errorf("the last ticket is %+v", got)
	}
	framed, _, ok := impl.Issue(ticketParams, ticketSecret, ticketIssuer, got, []int{5, 6, 7})
	if read, said := impl.Read(ticketParams, openOf(ticketParams, ticketSecret), ticketIssuer, framed); !ok || said != impl.ReadOk || !sameTicket(read, want) {
		t.Errorf("the ticket is read as %+v", read)
	}
	for _, id := range append(slices.Clone(edgeNumbers), 2, 3, 5, 100, 101) {
		if _, will := goodOrder(o, id); will {
			continue
		}
		if got, ok := impl.TicketFor(o, id); ok || !sameTicket(got, impl.Ticket{}) {
			t.Errorf("TicketFor(%+v, %d) = %+v, %t", o, id, got, ok)
		}
	}
}

// Each ride has the seat of its own train, day and stop, whatever the order
// in which the holds stand.
func TestSeatsOfATicket(t *testing.T) {
	lines := []impl.Train{seatTrain(3, 2, 6)}
	holds := []impl.Hold{
		{Train: 10, Day: 5, Coach: 1, Seat: 1, A: 0, B: 5, Order: 2},
		{Train: 10, Day: 5, Coach: 2, Seat: 1, A: 0, B: 2, Order: 1},
		{Train: 10, Day: 5, Coach: 3, Seat: 2, A: 2, B: 3, Order: 1},
		{Train: 10, Day: 6, Coach: 1, Seat: 2, A: 2, B: 4, Order: 1},
		{Train: 11, Day: 6, Coach: 9, Seat: 9, A: 0, B: 1, Order: 1},
	}
	rides := []impl.Ride{rideOn(10, 5, 101, 103), rideOn(10, 5, 103, 104), rideOn(10, 6, 103, 105), rideOn(10, 6, 101, 102), rideOn(11, 6, 101, 102), rideOn(10, 6, 103, 102)}
	o := impl.Office{Lines: lines, Holds: holds, Orders: []impl.Order{{Id: 1, State: impl.OrderSold, Class: 1, First: 5, Rides: rides}}}
	want := []impl.Leg{
		{Train: 10, Day: 5, From: 101, To: 103, Coach: 2, Seat: 1}, {Train: 10, Day: 5, From: 103, To: 104, Coach: 3, Seat: 2},
		{Train: 10, Day: 6, From: 103, To: 105, Coach: 1, Seat: 2}, {Train: 10, Day: 6, From: 101, To: 102},
		{Train: 11, Day: 6, From: 101, To: 102}, {Train: 10, Day: 6, From: 103, To: 102},
	}
	for range 2 {
		if got := checkTicketFor(t, o, 1); !slices.Equal(got.Legs, want) || got.Last != 6 {
			t.Errorf("the ticket is %+v", got)
		}
		o.Holds = backwards(o.Holds)
	}
}

// An order may have two holds that begin alike: the first counts.
func TestTwoSeatsOfARide(t *testing.T) {
	o := impl.Office{Lines: smallLines(), Holds: holdsBy(1, 2, 0, 1, 1, 1, 0, 2), Orders: []impl.Order{{Id: 1, State: impl.OrderSold, Class: 2, First: 5, Rides: []impl.Ride{wholeWay(5)}}}}
	checkOffice(t, o, true)
	for _, seat := range []int{2, 1} {
		if got := checkTicketFor(t, o, 1); len(got.Legs) != 1 || got.Legs[0].Seat != seat {
			t.Errorf("the ticket is %+v", got)
		}
		o.Holds = backwards(o.Holds)
	}
}

func TestTheLastDayOfATicket(t *testing.T) {
	for _, n := range []struct {
		last int
		days []int
	}{{5, []int{5}}, {3, []int{3}}, {3, []int{3, 3}}, {7, []int{5, 7}}, {7, []int{7, 5}}, {9, []int{5, 9, 6}}, {99999, []int{99999, 3}}, {11, []int{4, 5, 6, 7, 11, 8}}} {
		x := impl.Order{Id: 1, State: impl.OrderSold, Class: 1, First: 3}
		for _, day := range n.days {
			x.Rides = append(x.Rides, wholeWay(day))
		}
		o := impl.Office{Orders: []impl.Order{x}}
		if got := checkTicketFor(t, o, 1); got.Last != n.last || got.First != 3 {
			t.Errorf("of %v the last day is %d, the first %d", n.days, got.Last, got.First)
		}
		o.Orders[0].First = slices.Min(n.days) + 1
		checkNoTicket(t, o, 1)
	}
}

// printed is an office whose order 1 has what the ticket says, on trains that
// go from stop to stop, and its holds.
func printed(x impl.Ticket) impl.Office {
	order := impl.Order{Id: x.Id, State: impl.OrderSold, Name: x.Name, Class: x.Class, Price: x.Price, Paid: 77, First: x.First}
	o := impl.Office{}
	for _, l := range x.Legs {
		order.Rides = append(order.Rides, rideOn(l.Train, l.Day, l.From, l.To))
		o.Lines = append(o.Lines, shuttle(l.Train, daily, l.From, 0, l.To, 10))
		if l.Coach != 0 || l.Seat != 0 {
			o.Holds = append(o.Holds, impl.Hold{Train: l.Train, Day: l.Day, Coach: l.Coach, Seat: l.Seat, A: 0, B: 1, Order: 1})
		}
	}
	o.Orders = []impl.Order{order}
	return o
}

func checkPrinted(t *testing.T, o impl.Office, want bool) {
	t.Helper()
	if got, ok := impl.TicketFor(o, 1); ok != want || impl.TicketOk(got) != want {
		t.Errorf("TicketFor(%+v, 1) = %+v, %t, want %t", o, got, ok, want)
	}
	checkTicketFor(t, o, 1)
}

func TestEveryTicketIsThatOfAnOrder(t *testing.T) {
	for _, x := range someTickets() {
		days := []int{}
		for _, l := range x.Legs {
			days = append(days, l.Day)
		}
		x.Last = slices.Max(days)
		if got, ok := impl.TicketFor(printed(x), 1); !ok || !sameTicket(got, x) {
			t.Errorf("the ticket %+v is now %+v, %t", x, got, ok)
		}
		checkPrinted(t, printed(x), true)
	}
}

// orderFields are what an order's ticket is told by, each with its bounds while
// the others hold; the last day follows the rides.
var orderFields = []struct {
	name        string
	least, most int
	set         func(o *impl.Order, h *impl.Hold, n int)
}{
	{"Id", 1, 999999999, func(o *impl.Order, h *impl.Hold, n int) { o.Id = n }},
	{"Class", 1, 2, func(o *impl.Order, h *impl.Hold, n int) { o.Class = n }},
	{"Price", 0, 100000000, func(o *impl.Order, h *impl.Hold, n int) { o.Price = n }},
	{"First", 0, 14, func(o *impl.Order, h *impl.Hold, n int) { o.First = n }},
	{"First, ahead of late rides", 0, 99999, func(o *impl.Order, h *impl.Hold, n int) { o.First, o.Rides[0].Day, o.Rides[1].Day = n, 99999, 99999 }},
	{"all days", 0, 99999, func(o *impl.Order, h *impl.Hold, n int) { o.First, o.Rides[0].Day, o.Rides[1].Day = n, n, n }},
	{"Day", 14, 99999, func(o *impl.Order, h *impl.Hold, n int) { o.Rides[0].Day = n }},
	{"Day of the last ride", 14, 99999, func(o *impl.Order, h *impl.Hold, n int) { o.Rides[1].Day = n }},
	{"Train", 1, 9999, func(o *impl.Order, h *impl.Hold, n int) { o.Rides[0].Train = n }},
	{"Train of the last ride", 1, 9999, func(o *impl.Order, h *impl.Hold, n int) { o.Rides[1].Train = n }},
	{"From", 1, 9999, func(o *impl.Order, h *impl.Hold, n int) { o.Rides[0].From, o.Rides[0].To = n, 5000 }},
	{"To", 1, 9999, func(o *impl.Order, h *impl.Hold, n int) { o.Rides[0].From, o.Rides[0].To = 5000, n }},
	{"From of the last ride", 1, 9999, func(o *impl.Order, h *impl.Hold, n int) { o.Rides[1].From, o.Rides[1].To = n, 5000 }},
	{"To of the last ride", 1, 9999, func(o *impl.Order, h *impl.Hold, n int) { o.Rides[1].From, o.Rides[1].To = 5000, n }},
	{"Coach", 1, 99, func(o *impl.Order, h *impl.Hold, n int) { h.Coach = n }},
	{"Seat", 1, 99, func(o *impl.Order, h *impl.Hold, n int) { h.Seat = n }},
	{"Coach without a seat", 0, 0, func(o *impl.Order, h *impl.Hold, n int) { h.Coach, h.Seat = n, 0 }},
	{"Seat without a coach", 0, 0, func(o *impl.Order, h *impl.Hold, n int) { h.Coach, h.Seat = 0, n }},
}

func TestOrdersHaveATicketWithinItsBounds(t *testing.T) {
	for _, f := range orderFields {
		numbers := []int{f.least - 1, f.least, f.least + 1, f.most - 1, f.most, f.most + 1, -f.least, -f.most, f.least + 1<<32}
		for _, n := range append(numbers, edgeNumbers...) {
			o := printed(someTicket())
			f.set(&o.Orders[0], &o.Holds[0], n)
			if got, ok := impl.TicketFor(o, 1); ok != within(n, f.least, f.most) {
				t.Errorf("%s of %d is told as %+v, %t", f.name, n, got, ok)
			}
			checkPrinted(t, o, within(n, f.least, f.most))
		}
	}
}

// What no ticket says does not keep an order from having one.
func TestWhatIsNotOnATicket(t *testing.T) {
	for _, n := range edgeNumbers {
		o := printed(someTicket())
		o.Orders[0].Card, o.Orders[0].Paid, o.Today = n, n, n
		o.Told = []impl.Reply{{Request: n, Said: n, Order: n, Amount: n}}
		if got, ok := impl.TicketFor(o, 1); !ok || !sameTicket(got, someTicket()) {
			t.Errorf("with %d the ticket is %+v, %t", n, got, ok)
		}
	}
}

func TestNamesOfOrdersThatHaveATicket(t *testing.T) {
	for n := range 60 {
		checkPrinted(t, printed(named(strings.Repeat("x", n))), n <= 40)
	}
	checkPrinted(t, printed(named(strings.Repeat("x", 100000))), false)
	for b := range 256 {
		one := string([]byte{byte(b)})
		for _, name := range []string{one, one + "A", "A" + one, strings.Repeat("A", 39) + one, one + strings.Repeat("A", 39)} {
			checkPrinted(t, printed(named(name)), b >= 32 && b <= 126)
		}
	}
}

func TestOrdersHaveATicketOfOneToSixRides(t *testing.T) {
	for _, n := range []int{0, 1, 2, 3, 4, 5, 6, 7, 8, 12, 13, 20000} {
		x := someTicket()
		x.Legs = slices.Repeat(x.Legs[1:], n)
		checkPrinted(t, printed(x), n >= 1 && n <= 6)
	}
}

func TestEachRideOfAnOrderIsLookedAt(t *testing.T) {
	for place := range impl.MaxLegs {
		for _, wrong := range []impl.Leg{
			{Train: 0, Day: 14, From: 1, To: 2}, {Train: 1, Day: 13, From: 1, To: 2}, {Train: 1, Day: 100000, From: 1, To: 2}, {Train: 1, Day: 14, From: 2, To: 2},
			{Train: 1, Day: 14, From: 0, To: 2}, {Train: 1, Day: 14, From: 1, To: 10000}, {Train: 1, Day: 14, From: 1, To: 2, Coach: 1}, {Train: 1, Day: 14, From: 1, To: 2, Seat: 1}, {},
		} {
			x := someTicket()
			x.Legs = slices.Repeat(x.Legs, 3)
			checkPrinted(t, printed(x), true)
			x.Legs[place] = wrong
			checkPrinted(t, printed(x), false)
		}
	}
}

func TestStopsOfARideOnATicketDiffer(t *testing.T) {
	for _, from := range []int{1, 2, 5000, 9998, 9999} {
		for _, to := range []int{1, 2, 5000, 9998, 9999} {
			x := someTicket()
			x.Legs[1].From, x.Legs[1].To = from, to
			checkPrinted(t, printed(x), from != to)
		}
	}
}

func TestSeatsOfHoldsThatMakeNoTicket(t *testing.T) {
	for coach := -1; coach <= 100; coach++ {
		for _, seat := range []int{-1, 0, 1, 2, 98, 99, 100} {
			x, turned := leastTicket(), leastTicket()
			x.Legs[0].Coach, x.Legs[0].Seat = coach, seat
			turned.Legs[0].Coach, turned.Legs[0].Seat = seat, coach
			want := coach == 0 && seat == 0 || coach >= 1 && coach <= 99 && seat >= 1 && seat <= 99
			checkPrinted(t, printed(x), want)
			checkPrinted(t, printed(turned), want)
		}
	}
	o := printed(someTicket())
	o.Holds = append(o.Holds, impl.Hold{Train: 10, Day: 14, Coach: 1, A: 0, B: 1, Order: 1}, impl.Hold{Train: 20, Day: 15, Coach: 1, A: 0, B: 1, Order: 2}, impl.Hold{Train: 20, Day: 14, Coach: 1, A: 0, B: 1, Order: 1}, impl.Hold{Train: 20, Day: 15, Coach: 1, A: 1, B: 2, Order: 1})
	checkPrinted(t, o, true)
}

func TestOnlyOrdersThatAreSoldHaveATicket(t *testing.T) {
	for _, state := range append(slices.Clone(edgeNumbers), 0, 1, 2, 3, 4) {
		o := printed(someTicket())
		o.Orders[0].State = state
		checkPrinted(t, o, state == impl.OrderSold)
	}
}

func TestAnOfficeWithWrongLinesOrTariff(t *testing.T) {
	o := busyOffice(t)
	for _, lines := range [][]impl.Train{nil, backwards(o.Lines), manyTrains(41), {seated(threeStops(), 1, 0), o.Lines[1]}, {o.Lines[0], o.Lines[0], o.Lines[1]}} {
		wrong := copiedOffice(o)
		wrong.Lines = lines
		checkRefused(t, wrong, sellOf(9, plainWay(14)), impl.SaidWay)
		checkRefused(t, wrong, changeOf(9, 1, wholeWay(14)), impl.SaidWay)
		checkReply(t, wrong, backOf(9, 1), 1, -1350)
		checkReply(t, wrong, dayOf(9, 6), 0, 0)
		checkTicketFor(t, wrong, 1)
	}
	for _, tariff := range [][]impl.Edge{nil, lineOf(201, 5), append(smallTariff(), impl.Edge{A: 1, B: 1})} {
		wrong := copiedOffice(o)
		wrong.Tariff = tariff
		checkRefused(t, wrong, sellOf(9, plainWay(14)), impl.SaidFare)
		checkRefused(t, wrong, changeOf(9, 1, wholeWay(14)), impl.SaidFare)
		checkReply(t, wrong, backOf(9, 1), 1, -1350)
	}
}

// Holds that are not right can't be added to, but need not be where a train
// has no seats, or where they are given up.
func TestAnOfficeWithWrongHolds(t *testing.T) {
	o := busyOffice(t)
	for _, wrong := range []impl.Hold{{}, holdOf(1, 1, 0, 20), ordered(holdOf(7, 7, 0, 1), 0), {Train: 10, Day: 14, Coach: 1, Seat: 1, A: 1, B: 2, Order: 1}} {
		broken := copiedOffice(o)
		broken.Holds = append(broken.Holds, wrong)
		checkOffice(t, broken, false)
		checkRefused(t, broken, sellOf(9, wholeWay(30)), impl.SaidSeat)
		checkRefused(t, broken, changeOf(9, 4, wholeWay(30)), impl.SaidSeat)
		checkReply(t, broken, sellOf(9, plainWay(30)), 5, 250)
		checkReply(t, broken, backOf(9, 4), 4, -950)
		if wrong.Order == 1 {
			checkReply(t, broken, changeOf(9, 1, wholeWay(30)), 5, -250)
		} else {
			checkRefused(t, broken, changeOf(9, 1, wholeWay(30)), impl.SaidSeat)
		}
	}
	full := copiedOffice(o)
	full.Holds = append(full.Holds, manyHolds(400)...)
	checkRefused(t, full, sellOf(9, wholeWay(30)), impl.SaidSeat)
	checkReply(t, full, sellOf(9, plainWay(30)), 5, 250)
}

// A hold of an order that the office has not holds its seat all the same, and
// is the order's once there is one of that number.
func TestAnOfficeWithHoldsOfAnOrderThatItHasNot(t *testing.T) {
	o := shortOffice(t)
	o.Holds = []impl.Hold{{Train: 10, Day: 5, Coach: 1, Seat: 1, A: 0, B: 1, Order: 1}, {Train: 10, Day: 6, Coach: 1, Seat: 1, A: 0, B: 2, Order: 77}}
	checkOffice(t, o, false)
	checkRefused(t, o, sellOf(1, rideOn(10, 5, 1, 2)), impl.SaidSeat)
	checkRefused(t, o, sellOf(1, wholeWay(6)), impl.SaidSeat)
	checkRefused(t, o, backOf(1, 77), impl.SaidNone)
	next := checkReply(t, o, sellOf(1, rideOn(10, 5, 2, 3)), 1, 700)
	if len(next.Holds) != 3 {
		t.Errorf("the holds are %+v", next.Holds)
	}
	next = checkReply(t, next, backOf(2, 1), 1, 350-700)
	if !slices.Equal(next.Holds, o.Holds[1:]) {
		t.Errorf("the holds are %+v", next.Holds)
	}
}

// Orders are told by where they stand.
func TestAnOfficeWithOrdersOfAnotherId(t *testing.T) {
	o := busyOffice(t)
	for i := range o.Orders {
		o.Orders[i].Id = 40 - i
	}
	checkOffice(t, o, false)
	checkReply(t, o, backOf(9, 4), 4, -950)
	checkRefused(t, o, backOf(9, 40), impl.SaidNone)
	checkRefused(t, o, backOf(9, 2), impl.SaidNone)
	next := checkReply(t, o, changeOf(9, 1, wholeWay(14)), 5, -250)
	if next.Orders[4].Id != 5 || next.Orders[0].Id != 40 || next.Orders[0].State != impl.OrderChanged {
		t.Errorf("the orders are %+v", next.Orders)
	}
	if got := checkTicketFor(t, o, 1); got.Id != 40 || got.Legs[0].Seat != 1 {
		t.Errorf("the ticket of order 1 is %+v", got)
	}
	checkTicketFor(t, o, 40)
}

func TestAnOfficeWithARequestToldTwice(t *testing.T) {
	o := busyOffice(t)
	o.Told = append(o.Told, impl.Reply{Request: 3, Said: 7, Order: 8, Amount: 9}, impl.Reply{Request: -4, Said: 2}, impl.Reply{Said: 3, Amount: 5}, impl.Reply{Request: math.MinInt})
	checkOffice(t, o, false)
	checkUntold(t, o, backOf(3, 1), o.Told[2])
	for _, r := range o.Told[6:] {
		checkUntold(t, o, sellOf(r.Request, plainWay(14)), r)
		checkUntold(t, o, impl.Want{Kind: 9, Request: r.Request}, r)
	}
	checkReply(t, o, backOf(9, 1), 1, -1350)
}

func TestAnOfficeWithNoLists(t *testing.T) {
	var o impl.Office
	checkRefused(t, o, sellOf(1, wholeWay(5)), impl.SaidWay)
	checkRefused(t, o, sellOf(1), impl.SaidWay)
	checkRefused(t, o, impl.Want{Request: 1}, impl.SaidBad)
	checkRefused(t, o, changeOf(1, 1), impl.SaidNone)
	checkRefused(t, o, backOf(1, 1), impl.SaidNone)
	checkRefused(t, o, dayOf(1, 0), impl.SaidBad)
	checkReply(t, o, dayOf(1, 1), 0, 0)
	checkUntold(t, o, impl.Want{}, impl.Reply{Said: impl.SaidBad})
	for _, id := range edgeNumbers {
		checkTicketFor(t, o, id)
	}
}

// Days that are further apart than an int can tell are many days all the same.
func TestOfficesAtTheGreatestNumbers(t *testing.T) {
	o := checkAll(t, smallOffice(t), sellOf(1, wholeWay(14)))
	for _, n := range []struct{ first, today, fee int }{
		{math.MaxInt, math.MinInt, 0}, {math.MaxInt, -1, 0}, {0, math.MinInt, 0}, {math.MaxInt, math.MaxInt, 550}, {math.MinInt, math.MinInt, 550},
		{math.MaxInt, math.MaxInt - 7, 275}, {math.MaxInt, math.MaxInt - 8, 0}, {math.MinInt + 7, math.MinInt, 275}, {math.MinInt + 8, math.MinInt, 0}, {3, -5, 0}, {3, -4, 275},
	} {
		far := copiedOffice(o)
		far.Orders[0].First, far.Today = n.first, n.today
		checkReply(t, far, backOf(2, 1), 1, n.fee-1100)
	}
	for _, first := range edgeNumbers {
		for _, today := range edgeNumbers {
			far := copiedOffice(o)
			far.Orders[0].First, far.Today = first, today
			checkDo(t, far, backOf(2, 1))
			checkDo(t, far, changeOf(2, 1, wholeWay(14)))
			checkDo(t, far, dayOf(2, first))
			far.Orders[0].Paid = first
			checkDo(t, far, backOf(2, 1))
			checkDo(t, far, changeOf(2, 1, wholeWay(14)))
		}
	}
}

// oddOffice is a busyOffice with an order, a hold and a reply of any numbers.
func oddOffice(t *testing.T, a, b int) impl.Office {
	t.Helper()
	o := busyOffice(t)
	o.Orders = append(o.Orders, impl.Order{Id: a, State: 1, Class: b, Card: a, Rides: []impl.Ride{{Train: a, Day: b, From: a, To: b}}, Price: a, Paid: b, First: b})
	o.Holds = append(o.Holds, impl.Hold{Train: a, Day: b, Coach: a, Seat: b, A: a, B: b, Order: a})
	o.Told = append(o.Told, impl.Reply{Request: a, Said: b, Order: a, Amount: b})
	return o
}

func TestOfficesAnswerAtAnyArguments(t *testing.T) {
	for _, a := range edgeNumbers {
		for _, b := range edgeNumbers {
			o := oddOffice(t, a, b)
			for kind := -1; kind <= 4; kind++ {
				checkDo(t, o, impl.Want{Kind: kind, Request: 60, Order: a, Class: b, Card: a, Rides: []impl.Ride{{Train: a, Day: b, From: b, To: a}}})
				checkDo(t, o, impl.Want{Kind: kind, Request: b, Order: 5, Class: 2, Rides: []impl.Ride{wholeWay(14)}})
				checkDo(t, o, impl.Want{Kind: a, Request: b, Order: 1})
			}
			checkOffice(t, o, rightOffice(o))
			checkTicketFor(t, o, a)
			checkTicketFor(t, o, 5)
		}
	}
}

// anyRides can be taken more often than not.
func anyRides(r *rand.Rand, lines []impl.Train, stations, today int) []impl.Ride {
	rides, _, _ := impl.Earliest(lines, 1+r.Intn(stations), 1+r.Intn(stations), max(today-r.Intn(2), 0)+r.Intn(3), 0)
	if len(rides) > 0 && r.Intn(12) == 0 {
		i := r.Intn(len(rides))
		rides[i].Day += r.Intn(3) - 1
		rides[i].To += r.Intn(2)
	}
	return rides
}

func anyWant(r *rand.Rand, o impl.Office, stations int) impl.Want {
	w := impl.Want{Kind: []int{0, 0, 0, 0, 1, 1, 1, 2, 3, 4}[r.Intn(10)], Request: 1 + r.Intn(200), Order: r.Intn(len(o.Orders) + 2), Name: "A", Class: 1 + r.Intn(2), Card: r.Intn(4)}
	if w.Kind == impl.OfficeDay {
		w.Order = o.Today + r.Intn(3) - 1
	}
	if r.Intn(15) == 0 {
		w.Class, w.Card = r.Intn(4), r.Intn(6)-1
	}
	w.Rides = anyRides(r, o.Lines, stations, o.Today)
	return w
}

func anyOffice(t *testing.T, r *rand.Rand, stations int) impl.Office {
	t.Helper()
	lines := anyLines(r, 1+r.Intn(8), stations, []int{6, 40, 300, 900}[r.Intn(4)])
	for i := range lines {
		lines[i].Coaches = r.Intn(3)
		lines[i].Seats = min(lines[i].Coaches, 1)
	}
	return officeOf(t, lines, anyTariff(r, 1+r.Intn(6), stations, []int{10, 1000, 1000000}[r.Intn(3)]), r.Intn(20))
}

func TestAnySession(t *testing.T) {
	r := rand.New(rand.NewSource(17))
	met := map[[2]int]int{}
	again := 0
	for range 250 {
		stations := 2 + r.Intn(4)
		o := anyOffice(t, r, stations)
		for range 60 {
			w := anyWant(r, o, stations)
			next, said := checkDo(t, o, w)
			if len(next.Told) == len(o.Told) {
				again++
			} else {
				met[[2]int{w.Kind, said.Said}]++
			}
			if told := slices.Contains(next.Told, said); told {
				again := anyWant(r, o, stations)
				again.Request = w.Request
				checkUntold(t, next, again, said)
			}
			checkRight(t, next)
			o = next
		}
	}
	for _, n := range [][2]int{{0, 0}, {0, 1}, {0, 2}, {0, 3}, {0, 4}, {1, 0}, {1, 2}, {1, 3}, {1, 4}, {1, 6}, {1, 7}, {2, 0}, {2, 6}, {2, 7}, {3, 0}, {3, 1}} {
		if met[n] < 20 {
			t.Errorf("kind and said %v were met only %d times", n, met[n])
		}
	}
	if again < 200 {
		t.Errorf("only %d requests came again", again)
	}
}

func TestOfficesThatWereToldStayAsTheyWere(t *testing.T) {
	r := rand.New(rand.NewSource(18))
	for range 40 {
		stations := 2 + r.Intn(4)
		list := []impl.Office{anyOffice(t, r, stations)}
		kept := []impl.Office{copiedOffice(list[0])}
		for range 40 {
			from := r.Intn(len(list))
			next, _ := impl.OfficeDo(list[from], anyWant(r, list[from], stations))
			list, kept = append(list, next), append(kept, copiedOffice(next))
		}
		for i := range list {
			if !sameOffice(list[i], kept[i]) {
				t.Fatalf("office %d was %+v and is %+v", i, kept[i], list[i])
			}
		}
	}
}

// sharingOffice has the same stops behind two trains and the same rides behind
// two orders.
func sharingOffice() impl.Office {
	lines := smallLines()
	lines = append(lines, impl.Train{Id: 30, Days: daily, Stops: lines[0].Stops})
	rides := []impl.Ride{plainWay(14)}
	return impl.Office{Lines: lines, Tariff: smallTariff(), Today: startDay, Orders: []impl.Order{
		{Id: 1, State: impl.OrderSold, Name: "A", Class: 2, Rides: rides, Price: 250, Paid: 250, First: 14},
		{Id: 2, State: impl.OrderSold, Name: "B", Class: 2, Rides: rides, Price: 250, Paid: 250, First: 14},
	}}
}

// No two lists of an answer share memory, be it that of the argument did.
func TestListsOfAnOfficeAreApart(t *testing.T) {
	rides := []impl.Ride{wholeWay(14), plainWay(14)}
	for _, w := range []impl.Want{sellOf(1, rides...), changeOf(1, 1, rides...), backOf(1, 2), dayOf(1, 6), sellOf(1), {Kind: 9, Request: 1}} {
		o, _ := impl.OfficeDo(sharingOffice(), w)
		o, _ = impl.OfficeDo(o, sellOf(2, rides...))
		for i := range o.Lines {
			kept := copiedOffice(o)
			clear(o.Lines[i].Stops[:cap(o.Lines[i].Stops)])
			kept.Lines[i].Stops = o.Lines[i].Stops
			if !sameOffice(o, kept) {
				t.Errorf("behind %+v the stops of train %d are those of others", w, i)
			}
		}
		for i := range o.Orders {
			kept := copiedOffice(o)
			clear(o.Orders[i].Rides[:cap(o.Orders[i].Rides)])
			kept.Orders[i].Rides = o.Orders[i].Rides
			if !sameOffice(o, kept) || rides[0] != wholeWay(14) || rides[1] != plainWay(14) {
				t.Errorf("behind %+v the rides of order %d are those of others", w, i)
			}
		}
	}
}

func TestOfficesWriteIntoNoArgument(t *testing.T) {
	lines, tariff := roomy(smallLines()), withRoom(smallTariff(), impl.Edge{A: 7})
	keptLines, keptTariff := wholeRoom(lines), slices.Clone(tariff[:cap(tariff)])
	started, _ := impl.OfficeStart(lines, tariff, startDay)
	wipe(started)
	if !slices.EqualFunc(wholeRoom(lines), keptLines, sameTrain) || !slices.Equal(tariff[:cap(tariff)], keptTariff) {
		t.Errorf("the lines are now %+v, the tariff %+v", lines, tariff)
	}
	o := roomyOffice(busyOffice(t))
	kept := wholeOffice(o)
	for id := range 6 {
		ticket, _ := impl.TicketFor(o, id)
		clear(ticket.Legs[:cap(ticket.Legs)])
		impl.OfficeOk(o)
		impl.Income(o)
	}
	if !sameOffice(wholeOffice(o), kept) {
		t.Errorf("the office is now %+v", o)
	}
}
