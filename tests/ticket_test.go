package tests

import (
	"fmt"
	"iter"
	"math"
	"math/rand"
	"regexp"
	"slices"
	"strconv"
	"strings"
	"testing"

	"loop.example/g00211/impl"
)

var ticketParams = impl.Params{P: 240169, Q: 10007, G: 205555}

const (
	ticketSecret = 7
	ticketIssuer = 80
)

func someTicket() impl.Ticket {
	return impl.Ticket{Id: 7, Name: "A  B", Class: 2, Price: 1350, First: 14, Last: 15, Legs: []impl.Leg{
		{Train: 10, Day: 14, From: 1, To: 3, Coach: 1, Seat: 2},
		{Train: 20, Day: 15, From: 3, To: 4},
	}}
}

func leastTicket() impl.Ticket {
	return impl.Ticket{Id: 1, Class: 1, Legs: []impl.Leg{{Train: 1, From: 1, To: 2}}}
}

func mostTicket() impl.Ticket {
	leg := impl.Leg{Train: 9999, Day: 99999, From: 9999, To: 9998, Coach: 99, Seat: 99}
	return impl.Ticket{Id: 999999999, Name: strings.Repeat("~", impl.MaxName), Class: 2, Price: 100000000, First: 99999, Last: 99999, Legs: slices.Repeat([]impl.Leg{leg}, impl.MaxLegs)}
}

func named(name string) impl.Ticket {
	t := someTicket()
	t.Name = name
	return t
}

func someNames() []string {
	return []string{
		"", " ", "  ", "A", " A", "A ", " A ", "A B", "A  B", "  A   B  ", "~", "!", "name", "name A", "name ", "leg 1 2 3 4 5 6", "head 1", "007", "-1", "\\n",
		strings.Repeat(" ", 39), strings.Repeat(" ", 40), strings.Repeat("x", 39), strings.Repeat("x", 40), " !\"#$%&'()*+,-./0123456789:;<=>?@ABCDEFG",
	}
}

func someTickets() []impl.Ticket {
	list := []impl.Ticket{leastTicket(), someTicket(), mostTicket()}
	for _, name := range someNames() {
		list = append(list, named(name))
	}
	r := rand.New(rand.NewSource(4))
	for range 40 {
		list = append(list, anyTicket(r))
	}
	return list
}

func anyTicket(r *rand.Rand) impl.Ticket {
	t := impl.Ticket{Id: 1 + r.Intn(999999999), Class: 1 + r.Intn(2), Price: r.Intn(100000001), First: r.Intn(100000)}
	t.Last = t.First + r.Intn(100000-t.First)
	for range r.Intn(41) {
		t.Name += string([]byte{byte(32 + r.Intn(95))})
	}
	for range 1 + r.Intn(6) {
		l := impl.Leg{Train: 1 + r.Intn(9999), Day: t.First + r.Intn(t.Last-t.First+1), From: 1 + r.Intn(5000), To: 5001 + r.Intn(4999)}
		if r.Intn(2) == 0 {
			l.Coach, l.Seat = 1+r.Intn(99), 1+r.Intn(99)
		}
		t.Legs = append(t.Legs, l)
	}
	return t
}

func sameTicket(a, b impl.Ticket) bool {
	return a.Id == b.Id && a.Name == b.Name && a.Class == b.Class && a.Price == b.Price && a.First == b.First && a.Last == b.Last && slices.Equal(a.Legs, b.Legs)
}

func rightName(s string) bool {
	return len(s) <= 40 && !strings.ContainsFunc(s, func(r rune) bool { return r < ' ' || r > '~' })
}

func rightLeg(t impl.Ticket, l impl.Leg) bool {
	seat := l.Coach == 0 && l.Seat == 0 || within(l.Coach, 1, 99) && within(l.Seat, 1, 99)
	return within(l.Train, 1, 9999) && within(l.Day, t.First, t.Last) && within(l.From, 1, 9999) && within(l.To, 1, 9999) && l.From != l.To && seat
}

func rightTicket(t impl.Ticket) bool {
	wrong := slices.ContainsFunc(t.Legs, func(l impl.Leg) bool { return !rightLeg(t, l) })
	return within(t.Id, 1, 999999999) && rightName(t.Name) && within(t.Class, 1, 2) && within(t.Price, 0, 100000000) &&
		within(t.First, 0, 99999) && within(t.Last, t.First, 99999) && within(len(t.Legs), 1, 6) && !wrong
}

func wantPlain(t impl.Ticket) string {
	plain := fmt.Sprintf("head %d %d %d %d %d\nname %s\n", t.Id, t.Class, t.Price, t.First, t.Last, t.Name)
	for _, l := range t.Legs {
		plain += fmt.Sprintf("leg %d %d %d %d %d %d\n", l.Train, l.Day, l.From, l.To, l.Coach, l.Seat)
	}
	return plain
}

var (
	plainForm  = regexp.MustCompile(`\Ahead((?: (?:0|[1-9][0-9]{0,8})){5})\nname ([\x20-\x7e]{0,40})\n((?:leg(?: (?:0|[1-9][0-9]{0,8})){6}\n){1,6})\z`)
	numberForm = regexp.MustCompile(`[0-9]+`)
)

func numbersOf(s string) []int {
	list := []int{}
	for _, digits := range numberForm.FindAllString(s, -1) {
		n, _ := strconv.Atoi(digits)
		list = append(list, n)
	}
	return list
}

func wantTicket(s string) (impl.Ticket, bool) {
	found := plainForm.FindStringSubmatch(s)
	if found == nil {
		return impl.Ticket{}, false
	}
	head := numbersOf(found[1])
	t := impl.Ticket{Id: head[0], Class: head[1], Price: head[2], First: head[3], Last: head[4], Name: found[2]}
	for n := range slices.Chunk(numbersOf(found[3]), 6) {
		t.Legs = append(t.Legs, impl.Leg{Train: n[0], Day: n[1], From: n[2], To: n[3], Coach: n[4], Seat: n[5]})
	}
	if !rightTicket(t) {
		return impl.Ticket{}, false
	}
	return t, true
}

func checkTicket(t *testing.T, x impl.Ticket, want bool) {
	t.Helper()
	if right := rightTicket(x); right != want {
		t.Fatalf("the test itself takes %+v for right: %t", x, right)
	}
	if got := impl.TicketOk(x); got != want {
		t.Errorf("TicketOk(%+v) = %t", x, got)
	}
	plain := ""
	if want {
		plain = wantPlain(x)
	}
	if got, ok := impl.PutTicket(x); got != plain || ok != want {
		t.Errorf("PutTicket(%+v) = %q, %t, want %q, %t", x, got, ok, plain, want)
	}
	if got, ok := impl.GetTicket(wantPlain(x)); ok != want || ok && !sameTicket(got, x) || !ok && !sameTicket(got, impl.Ticket{}) {
		t.Errorf("GetTicket(%q) = %+v, %t, want %+v, %t", wantPlain(x), got, ok, x, want)
	}
}

func checkPlain(t *testing.T, s string) bool {
	t.Helper()
	want, will := wantTicket(s)
	got, ok := impl.GetTicket(s)
	if ok != will || !sameTicket(got, want) {
		t.Errorf("GetTicket(%.300q) = %+v, %t, want %+v, %t", s, got, ok, want, will)
	}
	if again, put := impl.PutTicket(got); ok && (again != s || !put) {
		t.Errorf("GetTicket(%q) is put as %q, %t", s, again, put)
	}
	return ok
}

func TestTicketConstants(t *testing.T) {
	if impl.MaxLegs != 6 || impl.MaxName != 40 || impl.FrameHead != "#UT01" {
		t.Errorf("the limits are %d, %d, the head is %q", impl.MaxLegs, impl.MaxName, impl.FrameHead)
	}
	if codes := [5]int{impl.FrameOk, impl.FrameStart, impl.FrameIssuer, impl.FrameLen, impl.FramePack}; codes != [5]int{0, 1, 2, 3, 4} {
		t.Errorf("the codes of frames are %v", codes)
	}
	if codes := [4]int{impl.ReadOk, impl.ReadFrame, impl.ReadSign, impl.ReadText}; codes != [4]int{0, 1, 2, 3} {
		t.Errorf("the codes of reading are %v", codes)
	}
}

func TestATicketComesBackFromItsPlainText(t *testing.T) {
	for _, x := range someTickets() {
		checkTicket(t, x, true)
	}
}

func TestPlainTextsAreSpelt(t *testing.T) {
	bare := "head 7 2 1350 14 15\nname %s\nleg 10 14 1 3 1 2\nleg 20 15 3 4 0 0\n"
	cases := map[string]impl.Ticket{
		"head 1 1 0 0 0\nname \nleg 1 0 1 2 0 0\n": leastTicket(),
		"head 999999999 2 100000000 99999 99999\nname " + strings.Repeat("~", 40) + "\n" + strings.Repeat("leg 9999 99999 9999 9998 99 99\n", 6): mostTicket(),
	}
	for _, name := range someNames() {
		cases[strings.Replace(bare, "%s", name, 1)] = named(name)
	}
	for want, x := range cases {
		if got, ok := impl.PutTicket(x); got != want || !ok {
			t.Errorf("PutTicket(%+v) = %q, %t, want %q", x, got, ok, want)
		}
		if got, ok := impl.GetTicket(want); !sameTicket(got, x) || !ok {
			t.Errorf("GetTicket(%q) = %+v, %t", want, got, ok)
		}
	}
}

func TestNamesAtTheirBounds(t *testing.T) {
	for n := range 60 {
		for _, letter := range []string{" ", "x", "~"} {
			checkTicket(t, named(strings.Repeat(letter, n)), n <= impl.MaxName)
		}
	}
	checkTicket(t, named(strings.Repeat("x", 100000)), false)
	for b := range 256 {
		one := string([]byte{byte(b)})
		for _, name := range []string{one, one + "A", "A" + one, "A" + one + "B", strings.Repeat("A", 39) + one, one + strings.Repeat("A", 39)} {
			checkTicket(t, named(name), b >= 32 && b <= 126)
		}
	}
	for _, name := range []string{"\u00e9", "A\u2003B", "A\nB", "\n", "A\r", "A\t", "A\x00", "\xff"} {
		checkTicket(t, named(name), false)
	}
	if plain, ok := impl.PutTicket(named("A\nleg 1 14 1 2 0 0")); plain != "" || ok {
		t.Errorf("a leg is told by a name: %q, %t", plain, ok)
	}
}

func TestLegsAreCounted(t *testing.T) {
	for n := range 20 {
		x := someTicket()
		x.Legs = slices.Repeat(x.Legs[:1], n)
		checkTicket(t, x, n >= 1 && n <= impl.MaxLegs)
	}
	x := someTicket()
	x.Legs = slices.Repeat(x.Legs[:1], 20000)
	checkTicket(t, x, false)
}

// ticketFields are the numbers of a ticket, each with its bounds while the
// others of the ticket hold.
var ticketFields = []struct {
	name        string
	least, most int
	set         func(t *impl.Ticket, n int)
}{
	{"Id", 1, 999999999, func(t *impl.Ticket, n int) { t.Id = n }},
	{"Class", 1, 2, func(t *impl.Ticket, n int) { t.Class = n }},
	{"Price", 0, 100000000, func(t *impl.Ticket, n int) { t.Price = n }},
	{"First", 0, 99999, func(t *impl.Ticket, n int) { t.First, t.Last, t.Legs[0].Day, t.Legs[1].Day = n, 99999, 99999, 99999 }},
	{"First, by a day", 0, 14, func(t *impl.Ticket, n int) { t.First = n }},
	{"Last", 0, 99999, func(t *impl.Ticket, n int) { t.First, t.Last, t.Legs[0].Day, t.Legs[1].Day = 0, n, 0, 0 }},
	{"Last, by a day", 15, 99999, func(t *impl.Ticket, n int) { t.Last = n }},
	{"Last, by First", 14, 99999, func(t *impl.Ticket, n int) { t.Last, t.Legs[1].Day = n, 14 }},
	{"all days", 0, 99999, func(t *impl.Ticket, n int) { t.First, t.Last, t.Legs[0].Day, t.Legs[1].Day = n, n, n, n }},
	{"Train", 1, 9999, func(t *impl.Ticket, n int) { t.Legs[0].Train = n }},
	{"Day", 14, 15, func(t *impl.Ticket, n int) { t.Legs[0].Day = n }},
	{"Day of the last leg", 14, 15, func(t *impl.Ticket, n int) { t.Legs[1].Day = n }},
	{"From", 1, 9999, func(t *impl.Ticket, n int) { t.Legs[0].From, t.Legs[0].To = n, 5000 }},
	{"To", 1, 9999, func(t *impl.Ticket, n int) { t.Legs[0].From, t.Legs[0].To = 5000, n }},
	{"To of the last leg", 1, 9999, func(t *impl.Ticket, n int) { t.Legs[1].From, t.Legs[1].To = 5000, n }},
	{"Coach", 1, 99, func(t *impl.Ticket, n int) { t.Legs[0].Coach = n }},
	{"Seat", 1, 99, func(t *impl.Ticket, n int) { t.Legs[0].Seat = n }},
	{"Coach without a seat", 0, 0, func(t *impl.Ticket, n int) { t.Legs[1].Coach = n }},
	{"Seat without a coach", 0, 0, func(t *impl.Ticket, n int) { t.Legs[1].Seat = n }},
}

func TestNumbersOfATicketAtTheirBounds(t *testing.T) {
	for _, f := range ticketFields {
		numbers := []int{f.least - 1, f.least, f.least + 1, f.most - 1, f.most, f.most + 1, -f.least, -f.most, f.least + 1<<32}
		for _, n := range append(numbers, edgeNumbers...) {
			x := someTicket()
			f.set(&x, n)
			if got, want := impl.TicketOk(x), within(n, f.least, f.most); got != want {
				t.Errorf("%s of %d is right: %t", f.name, n, got)
			}
			checkTicket(t, x, within(n, f.least, f.most))
		}
	}
}

func TestEachLegIsLookedAt(t *testing.T) {
	for place := range impl.MaxLegs {
		for _, wrong := range []impl.Leg{
			{Train: 0, Day: 14, From: 1, To: 2}, {Train: 1, Day: 13, From: 1, To: 2}, {Train: 1, Day: 16, From: 1, To: 2}, {Train: 1, Day: 14, From: 2, To: 2},
			{Train: 1, Day: 14, From: 0, To: 2}, {Train: 1, Day: 14, From: 1, To: 10000}, {Train: 1, Day: 14, From: 1, To: 2, Coach: 1}, {Train: 1, Day: 14, From: 1, To: 2, Seat: 1}, {},
		} {
			x := someTicket()
			x.Legs = slices.Repeat(x.Legs, 3)
			checkTicket(t, x, true)
			x.Legs[place] = wrong
			checkTicket(t, x, false)
		}
	}
}

func TestStopsOfALegDiffer(t *testing.T) {
	for _, from := range []int{1, 2, 5000, 9998, 9999} {
		for _, to := range []int{1, 2, 5000, 9998, 9999} {
			x := someTicket()
			x.Legs[1].From, x.Legs[1].To = from, to
			checkTicket(t, x, from != to)
		}
	}
}

func TestCoachAndSeat(t *testing.T) {
	for coach := -1; coach <= 100; coach++ {
		for seat := -1; seat <= 100; seat++ {
			x := leastTicket()
			x.Legs[0].Coach, x.Legs[0].Seat = coach, seat
			want := coach == 0 && seat == 0 || coach >= 1 && coach <= 99 && seat >= 1 && seat <= 99
			if got := impl.TicketOk(x); got != want {
				t.Errorf("coach %d and seat %d are right: %t", coach, seat, got)
			}
		}
	}
}

func TestNothingElseIsAPlainText(t *testing.T) {
	head, name, leg := "head 7 2 1350 14 15\n", "name A\n", "leg 10 14 1 3 1 2\n"
	if _, ok := impl.GetTicket(head + name + leg); !ok {
		t.Fatal("the plain text itself is none")
	}
	none := []string{
		"", "\n", "\n\n\n", " ", "head", "head\nname\nleg\n", "head \nname \nleg \n", head, name, leg, head + name, head + leg, name + leg,
		head + name + leg[:len(leg)-1], head + name + leg + "\n", head + name + leg + " ", head + name + leg + "x", head + name + leg + "leg\n", head + name + "\n" + leg, "\n" + head + name + leg, head + "\n" + name + leg,
		name + head + leg, head + leg + name, leg + name + head, name + leg + head, head + head + name + leg, head + name + name + leg, head + name + leg + name, head + name + leg + head,
		"head  7 2 1350 14 15\n" + name + leg, " head 7 2 1350 14 15\n" + name + leg, "head 7 2 1350 14 15 \n" + name + leg, "head 7 2  1350 14 15\n" + name + leg, "head7 2 1350 14 15\n" + name + leg, "head 72 1350 14 15\n" + name + leg,
		"head 07 2 1350 14 15\n" + name + leg, "head 7 02 1350 14 15\n" + name + leg, "head 7 2 01350 14 15\n" + name + leg, "head 7 2 1350 014 15\n" + name + leg, "head 7 2 1350 14 015\n" + name + leg,
		"head +7 2 1350 14 15\n" + name + leg, "head -7 2 1350 14 15\n" + name + leg, "head 7 2 -0 14 15\n" + name + leg, "head 7 2 1350 14 15 1\n" + name + leg, "head 7 2 1350 14\n" + name + leg, "head 2 7 1350 14 15\n" + name + leg,
		"head 7 2 1350 15 14\n" + name + leg, "head 7 2 135o 14 15\n" + name + leg, "head 7 2 1350 14 15\r\n" + name + leg, "head\t7 2 1350 14 15\n" + name + leg, "Head 7 2 1350 14 15\n" + name + leg, "HEAD 7 2 1350 14 15\n" + name + leg,
		"7 head 2 1350 14 15\n" + name + leg, "7 2 1350 14 15\n" + name + leg, "name 7 2 1350 14 15\n" + name + leg, "leg 7 2 1350 14 15\n" + name + leg, "head 1000000007 2 1350 14 15\n" + name + leg,
		head + "nameA\n" + leg, head + "name\n" + leg, head + "A\n" + leg, head + " name A\n" + leg, head + "Name A\n" + leg, head + "name\tA\n" + leg, head + "name A\r\n" + leg, head + "A name\n" + leg, head + "name A" + leg,
		head + "name " + strings.Repeat("A", 41) + "\n" + leg, head + "name A\x1f\n" + leg, head + "name A\x7f\n" + leg, head + "name \xc3\xa9\n" + leg,
		head + name + "leg  10 14 1 3 1 2\n", head + name + " leg 10 14 1 3 1 2\n", head + name + "leg 10 14 1 3 1 2 \n", head + name + "leg10 14 1 3 1 2\n", head + name + "leg 10 14 1 3 12\n", head + name + "leg 10 14 1 3  1 2\n",
		head + name + "leg 010 14 1 3 1 2\n", head + name + "leg 10 14 1 3 1 02\n", head + name + "leg 10 14 1 3 00 00\n", head + name + "leg 10 14 +1 3 1 2\n", head + name + "leg 10 14 1 3 -1 2\n", head + name + "leg 10 14 1 3 1 2 3\n",
		head + name + "leg 10 14 1 3 x x\n", head + name + "leg 10 14 1 3  \n", head + name + "leg 10 14 1 3\n", head + name + "leg 10 14 1 1 1 2\n", head + name + "leg 10 13 1 3 1 2\n", head + name + "leg 10 16 1 3 1 2\n", head + name + "leg 10 14 1 3 0 2\n",
		head + name + "10 leg 14 1 3 1 2\n", head + name + "log 10 14 1 3 1 2\n", head + name + strings.Repeat(leg, 7), head + name + strings.Repeat(leg, 50000), head + name + leg + strings.Repeat("\n", 5),
		strings.Repeat(" ", 100000), strings.Repeat("\n", 100000), strings.Repeat("head ", 20000),
	}
	for _, s := range none {
		if got, ok := impl.GetTicket(s); ok || !sameTicket(got, impl.Ticket{}) {
			t.Errorf("GetTicket(%.200q) = %+v, %t", s, got, ok)
		}
		checkPlain(t, s)
	}
}

// changedTexts goes through what a text becomes when it is cut off, turned
// around, or has a byte less, another byte or one more.
func changedTexts(s string) iter.Seq[string] {
	return func(yield func(string) bool) {
		for i := range len(s) + 1 {
			list := []string{s[:i], s[i:], s[i:] + s[:i], s[:i] + s[min(i+1, len(s)):]}
			for b := range 256 {
				one := string([]byte{byte(b)})
				list = append(list, s[:i]+one+s[i:], s[:i]+one+s[min(i+1, len(s)):])
			}
			for _, changed := range list {
				if !yield(changed) {
					return
				}
			}
		}
	}
}

// checkChanged wants that what a text becomes is right in some cases, and none
// in others, so that neither goes unseen.
func checkChanged(t *testing.T, check func(*testing.T, string) bool, texts ...string) {
	t.Helper()
	right, none := 0, 0
	for _, s := range texts {
		for changed := range changedTexts(s) {
			if check(t, changed) {
				right++
			} else {
				none++
			}
		}
	}
	if right == 0 || none == 0 {
		t.Errorf("%d right ones, %d that are none", right, none)
	}
}

func TestPlainTextsWithAByteChanged(t *testing.T) {
	checkChanged(t, checkPlain, wantPlain(leastTicket()), wantPlain(someTicket()), wantPlain(named("")), wantPlain(named(" A ")))
}

func TestWordsInAnotherOrder(t *testing.T) {
	r := rand.New(rand.NewSource(5))
	for range 3000 {
		words := strings.SplitAfter(wantPlain(someTicket()), " ")
		i, j := r.Intn(len(words)), r.Intn(len(words))
		words[i], words[j] = words[j], words[i]
		checkPlain(t, strings.Join(words, ""))
		lines := strings.SplitAfter(wantPlain(someTicket()), "\n")
		r.Shuffle(len(lines), func(i, j int) { lines[i], lines[j] = lines[j], lines[i] })
		checkPlain(t, strings.Join(lines[:r.Intn(len(lines)+1)], ""))
	}
}

func wantFrame(issuer int, m impl.Mark, plain string) (string, bool) {
	if !within(issuer, 0, 9999) || !within(m.R, 0, 4294967295) || !within(m.S, 0, 4294967295) || len(plain) > 3000 {
		return "", false
	}
	packed := wantPack(plain)
	mark := []byte{}
	for _, n := range []int{m.R, m.S} {
		mark = append(mark, byte(n>>24), byte(n>>16), byte(n>>8), byte(n))
	}
	return fmt.Sprintf("#UT01%04d%s%04d%s", issuer, mark, len(packed), packed), true
}

func allDigits(s string) bool {
	return strings.Trim(s, "0123456789") == ""
}

func wantUnframe(s string) (int, impl.Mark, string, int) {
	if len(s) < 5 || s[:5] != "#UT01" {
		return 0, impl.Mark{}, "", impl.FrameStart
	}
	if len(s) < 17 || !allDigits(s[5:9]) {
		return 0, impl.Mark{}, "", impl.FrameIssuer
	}
	if len(s) < 21 || !allDigits(s[17:21]) || fmt.Sprintf("%04d", len(s)-21) != s[17:21] {
		return 0, impl.Mark{}, "", impl.FrameLen
	}
	plain, said := wantUnpack(s[21:])
	if said != impl.PackOk {
		return 0, impl.Mark{}, "", impl.FramePack
	}
	issuer, _ := strconv.Atoi(s[5:9])
	m := [2]int{}
	for i := range 8 {
		m[i/4] = 256*m[i/4] + int(s[9+i])
	}
	return issuer, impl.Mark{R: m[0], S: m[1]}, plain, impl.FrameOk
}

func checkFrame(t *testing.T, issuer int, m impl.Mark, plain string) {
	t.Helper()
	want, will := wantFrame(issuer, m, plain)
	framed, ok := impl.Frame(issuer, m, plain)
	if framed != want || ok != will {
		t.Errorf("Frame(%d, %v, %d bytes) = %.60q, %t, want %.60q, %t", issuer, m, len(plain), framed, ok, want, will)
	}
	if !ok {
		return
	}
	if i, n, s, said := impl.Unframe(framed); i != issuer || n != m || s != plain || said != impl.FrameOk {
		t.Errorf("Unframe(Frame(%d, %v, %.40q)) = %d, %v, %.40q, %d", issuer, m, plain, i, n, s, said)
	}
}

func checkUnframe(t *testing.T, s string) int {
	t.Helper()
	issuer, m, plain, code := wantUnframe(s)
	if i, n, p, said := impl.Unframe(s); i != issuer || n != m || p != plain || said != code {
		t.Errorf("Unframe(%d bytes %.60q) = %d, %v, %.40q, %d, want %d, %v, %.40q, %d", len(s), s, i, n, p, said, issuer, m, plain, code)
	}
	return code
}

func checkFault(t *testing.T, s string, code int) {
	t.Helper()
	checkUnframe(t, s)
	if i, m, plain, said := impl.Unframe(s); i != 0 || m != (impl.Mark{}) || plain != "" || said != code {
		t.Errorf("Unframe(%d bytes %.60q) = %d, %v, %.40q, %d, want noughts, nothing and %d", len(s), s, i, m, plain, said, code)
	}
}

func TestWhatIsFramedComesBack(t *testing.T) {
	marks := []impl.Mark{{}, {R: 1, S: 2}, {R: 27, S: 4}, {R: 4294967295}, {S: 4294967295}, {R: 4294967295, S: 4294967295}, {R: 1 << 31, S: 825307441}}
	for _, plain := range append(plainTexts(), wantPlain(someTicket()), wantPlain(mostTicket())) {
		for _, issuer := range []int{0, 7, 80, 9999} {
			checkFrame(t, issuer, marks[len(plain)%len(marks)], plain)
		}
	}
	for _, m := range marks {
		checkFrame(t, 80, m, "a")
	}
}

func TestFramesAreSpelt(t *testing.T) {
	cases := []struct {
		issuer int
		mark   impl.Mark
		plain  string
		want   string
	}{
		{0, impl.Mark{}, "", "#UT010000\x00\x00\x00\x00\x00\x00\x00\x000002\x03\x00"},
		{80, impl.Mark{R: 1, S: 2}, "a", "#UT010080\x00\x00\x00\x01\x00\x00\x00\x020003\x4b\x04\x00"},
		{9999, impl.Mark{R: 4294967295, S: 16909060}, "abcabcabcabd", "#UT019999\xff\xff\xff\xff\x01\x02\x03\x040007\x4b\x4c\x4a\x86\xa1\x14\x00"},
		{1234, impl.Mark{R: 808464432, S: 825307441}, "a", "#UT011234000011110003\x4b\x04\x00"},
	}
	for _, c := range cases {
		if got, ok := impl.Frame(c.issuer, c.mark, c.plain); got != c.want || !ok {
			t.Errorf("Frame(%d, %v, %q) = %q, %t, want %q", c.issuer, c.mark, c.plain, got, ok, c.want)
		}
	}
}

func TestIssuersAtTheirBounds(t *testing.T) {
	for issuer := -3; issuer <= 10003; issuer++ {
		checkFrame(t, issuer, impl.Mark{R: 1, S: 2}, "a")
	}
	for _, issuer := range append([]int{-1, 10000, 12345, 65536 + 80, 1<<32 + 80}, edgeNumbers...) {
		checkFrame(t, issuer, impl.Mark{R: 1, S: 2}, "a")
	}
	for issuer, want := range map[int]bool{-1: false, 0: true, 9999: true, 10000: false} {
		if framed, ok := impl.Frame(issuer, impl.Mark{}, ""); ok != want || (framed != "") != want {
			t.Errorf("Frame(%d) = %q, %t", issuer, framed, ok)
		}
	}
}

func TestMarksOfFramesAtTheirBounds(t *testing.T) {
	for _, a := range append([]int{4294967294, 4294967295, 4294967296, 4294967297}, edgeNumbers...) {
		for _, b := range append([]int{4294967294, 4294967295, 4294967296, 4294967297}, edgeNumbers...) {
			checkFrame(t, 80, impl.Mark{R: a, S: b}, "a")
		}
	}
	for _, m := range []impl.Mark{{R: -1}, {S: -1}, {R: 4294967296}, {S: 4294967296}} {
		if framed, ok := impl.Frame(80, m, "a"); ok || framed != "" {
			t.Errorf("Frame of %v = %q, %t", m, framed, ok)
		}
	}
}

func TestPlainTextsOfFramesAtTheirBounds(t *testing.T) {
	for _, length := range []int{impl.MaxPlain - 1, impl.MaxPlain, impl.MaxPlain + 1, 2 * impl.MaxPlain} {
		for _, plain := range []string{strings.Repeat("a", length), mixedText(11, length, 100)} {
			checkFrame(t, 80, impl.Mark{R: 1, S: 2}, plain)
			if _, ok := impl.Frame(80, impl.Mark{R: 1, S: 2}, plain); ok != (length <= 3000) {
				t.Errorf("Frame of %d bytes is there: %t", length, ok)
			}
		}
	}
}

func someFrame() string {
	framed, _ := wantFrame(80, impl.Mark{R: 1, S: 2}, wantPlain(someTicket()))
	return framed
}

func TestFramesThatAreCutOff(t *testing.T) {
	for _, plain := range []string{"", "a", wantPlain(someTicket()), mixedText(12, 300, 256)} {
		framed, _ := wantFrame(80, impl.Mark{R: 1, S: 2}, plain)
		for cut := range len(framed) {
			switch {
			case cut < 5:
				checkFault(t, framed[:cut], impl.FrameStart)
			case cut < 17:
				checkFault(t, framed[:cut], impl.FrameIssuer)
			default:
				checkFault(t, framed[:cut], impl.FrameLen)
			}
			checkUnframe(t, framed[cut:])
			checkUnframe(t, framed[:cut]+framed[cut+1:])
		}
	}
}

func TestFramesWithAByteMore(t *testing.T) {
	framed := someFrame()
	for b := range 256 {
		one := string([]byte{byte(b)})
		checkFault(t, framed+one, impl.FrameLen)
		checkUnframe(t, one+framed)
		for i := range framed {
			checkUnframe(t, framed[:i]+one+framed[i:])
		}
	}
	checkFault(t, " "+framed, impl.FrameStart)
	checkFault(t, framed+framed, impl.FrameLen)
}

func TestFramesWithAByteChanged(t *testing.T) {
	seen := map[int]int{}
	framed := someFrame()
	for i := range framed {
		for b := range 256 {
			seen[checkUnframe(t, framed[:i]+string([]byte{byte(b)})+framed[i+1:])]++
		}
	}
	for code := range 5 {
		if seen[code] == 0 {
			t.Errorf("no frame of code %d was tried", code)
		}
	}
}

func TestSignsOtherThanDigits(t *testing.T) {
	framed := someFrame()
	for b := range 256 {
		if b >= '0' && b <= '9' {
			continue
		}
		one := string([]byte{byte(b)})
		for i := 5; i < 9; i++ {
			checkFault(t, framed[:i]+one+framed[i+1:], impl.FrameIssuer)
		}
		for i := 17; i < 21; i++ {
			checkFault(t, framed[:i]+one+framed[i+1:], impl.FrameLen)
		}
	}
	for _, digits := range []string{"+080", "-080", "  80", "80  ", "0x50", "80.0", "8e01", "\u0660\u0661", "////", "::::"} {
		checkFault(t, framed[:5]+digits+framed[9:], impl.FrameIssuer)
		checkFault(t, framed[:17]+digits+framed[21:], impl.FrameLen)
	}
}

func TestLengthsThatDoNotFit(t *testing.T) {
	for _, plain := range []string{"", "a", wantPlain(someTicket())} {
		framed, _ := wantFrame(80, impl.Mark{R: 1, S: 2}, plain)
		fits := len(framed) - 21
		for length := range 10000 {
			s := framed[:17] + fmt.Sprintf("%04d", length) + framed[21:]
			if length == fits {
				checkUnframe(t, s)
			} else {
				checkFault(t, s, impl.FrameLen)
			}
		}
		checkFault(t, framed[:17]+strconv.Itoa(fits)+framed[21:], impl.FrameLen)
	}
}

func framedAs(packed string) string {
	return fmt.Sprintf("#UT010080\x00\x00\x00\x01\x00\x00\x00\x02%04d%s", len(packed), packed)
}

func TestOtherPackingsAreUnframed(t *testing.T) {
	for _, plain := range []string{"", "a", "abcabcabc", wantPlain(someTicket()), strings.Repeat("a", impl.MaxPlain)} {
		stored := storedText(len(plain), 65535-len(plain), plain)
		for _, packed := range []string{stored, bytesOf(lastFixed, textBits(plain), endOfBlock)} {
			if i, m, s, said := impl.Unframe(framedAs(packed)); i != 80 || m != (impl.Mark{R: 1, S: 2}) || s != plain || said != impl.FrameOk {
				t.Errorf("Unframe of %.40q packed otherwise = %d, %v, %.40q, %d", plain, i, m, s, said)
			}
		}
	}
}

func TestFramesOfWhatIsNotUnpacked(t *testing.T) {
	most := bytesOf(lastFixed, textBits(strings.Repeat("a", impl.MaxPlain)), endOfBlock)
	packed := []string{
		"", "\x02\x00", "\x07", "\x01\x02\x00\xfd\xffa", "\x01\x02\x00\xfd\xfeab", "\x03\x00\x00", "\x4b", "\x03\x02", "\x03\x04",
		bytesOf(lastFixed, textBits(strings.Repeat("a", impl.MaxPlain+1)), endOfBlock), most + "\x00",
		strings.Repeat("\x00", 6000), strings.Repeat("\x03", 6001), strings.Repeat("\x00", 9999),
	}
	for _, s := range packed {
		checkFault(t, framedAs(s), impl.FramePack)
	}
	checkFault(t, framedAs(strings.Repeat("\x00", 10000)), impl.FrameLen)
}

func TestWhichFaultOfAFrameIsToldFirst(t *testing.T) {
	start, issuer, length, packed := "#UT02", "00x0", "000x", "\x07\x07"
	mark := "\x00\x00\x00\x01\x00\x00\x00\x02"
	cases := []struct {
		text string
		code int
	}{
		{start + issuer + mark + length + packed, impl.FrameStart},
		{start + "0080" + mark + length + packed, impl.FrameStart},
		{start + "0080" + mark + "0002" + packed, impl.FrameStart},
		{start + issuer, impl.FrameStart},
		{"#ut01" + "0080" + mark + "0003\x4b\x04\x00", impl.FrameStart},
		{"UT01#" + "0080" + mark + "0003\x4b\x04\x00", impl.FrameStart},
		{"#UT01" + issuer + mark + length + packed, impl.FrameIssuer},
		{"#UT01" + issuer + mark + "0002" + packed, impl.FrameIssuer},
		{"#UT01" + issuer + mark[:7], impl.FrameIssuer},
		{"#UT01" + issuer, impl.FrameIssuer},
		{"#UT01" + issuer + mark + "0003\x4b\x04\x00", impl.FrameIssuer},
		{"#UT01" + "0080" + mark[:7], impl.FrameIssuer},
		{"#UT01" + "0080" + mark + length + packed, impl.FrameLen},
		{"#UT01" + "0080" + mark + "0001" + packed, impl.FrameLen},
		{"#UT01" + "0080" + mark + "0003" + packed, impl.FrameLen},
		{"#UT01" + "0080" + mark, impl.FrameLen},
		{"#UT01" + "0080" + mark + "000", impl.FrameLen},
		{"#UT01" + "0080" + mark + "0000", impl.FramePack},
		{"#UT01" + "0080" + mark + "0002" + packed, impl.FramePack},
		{"", impl.FrameStart},
		{"#UT01", impl.FrameIssuer},
	}
	for _, c := range cases {
		checkFault(t, c.text, c.code)
	}
}

func wantRead(p impl.Params, open, issuer int, s string) (impl.Ticket, int) {
	from, m, plain, said := wantUnframe(s)
	if said != impl.FrameOk || from != issuer {
		return impl.Ticket{}, impl.ReadFrame
	}
	if !wantVerify(p, open, plain, m) {
		return impl.Ticket{}, impl.ReadSign
	}
	x, ok := wantTicket(plain)
	if !ok {
		return impl.Ticket{}, impl.ReadText
	}
	return x, impl.ReadOk
}

func checkRead(t *testing.T, p impl.Params, open, issuer int, s string) int {
	t.Helper()
	want, code := wantRead(p, open, issuer, s)
	if got, said := impl.Read(p, open, issuer, s); said != code || !sameTicket(got, want) {
		t.Errorf("Read(%v, %d, %d, %d bytes %.60q) = %+v, %d, want %+v, %d", p, open, issuer, len(s), s, got, said, want, code)
	}
	return code
}

func checkCodeRead(t *testing.T, p impl.Params, open, issuer int, s string, code int) {
	t.Helper()
	if said := checkRead(t, p, open, issuer, s); said != code {
		t.Errorf("Read(%v, %d, %d, %d bytes %.60q) says %d, want %d", p, open, issuer, len(s), s, said, code)
	}
}

// wantIssue goes through the draws one by one.
func wantIssue(p impl.Params, secret, issuer int, x impl.Ticket, draws []int) (string, int, bool) {
	if !rightTicket(x) || len(draws) > 100 || !rightParams(p) || !within(secret, 1, p.Q-1) {
		return "", -1, false
	}
	for i, k := range draws {
		if m, ok := wantMark(p, secret, wantPlain(x), k); ok {
			framed, ok := wantFrame(issuer, m, wantPlain(x))
			if !ok {
				return "", -1, false
			}
			return framed, i, true
		}
	}
	return "", -1, false
}

func checkIssue(t *testing.T, p impl.Params, secret, issuer int, x impl.Ticket, draws []int) (string, bool) {
	t.Helper()
	want, at, will := wantIssue(p, secret, issuer, x, draws)
	got, i, ok := impl.Issue(p, secret, issuer, x, draws)
	if got != want || i != at || ok != will {
		t.Errorf("Issue(%v, %d, %d, %+v, %d draws) = %.60q, %d, %t, want %.60q, %d, %t", p, secret, issuer, x, len(draws), got, i, ok, want, at, will)
	}
	return got, ok
}

func openOf(p impl.Params, secret int) int {
	return powerOf(p.G, secret, p.P)
}

func someIssued() (string, int) {
	framed, _, _ := impl.Issue(ticketParams, ticketSecret, ticketIssuer, someTicket(), []int{5, 9, 11})
	return framed, openOf(ticketParams, ticketSecret)
}

func TestATicketThatIsIssuedIsReadAsItWas(t *testing.T) {
	issued := 0
	for _, p := range append([]impl.Params{ticketParams}, groups...) {
		for _, secret := range []int{1, 7, p.Q - 1} {
			for i, x := range someTickets() {
				issuer := []int{0, 1, 80, 9999}[i%4]
				framed, ok := checkIssue(t, p, secret, issuer, x, []int{0, p.Q, 5, 9, 11, 13})
				if !ok {
					continue
				}
				issued++
				if got, said := impl.Read(p, openOf(p, secret), issuer, framed); said != impl.ReadOk || !sameTicket(got, x) {
					t.Errorf("%+v is read as %+v, %d", x, got, said)
				}
			}
		}
	}
	if issued < 1000 {
		t.Errorf("only %d were issued", issued)
	}
}

func TestIssueTakesTheFirstDrawThatWillDo(t *testing.T) {
	p := groups[0]
	var draws []int
	for k := -1; k <= p.Q+1; k++ {
		draws = append(draws, k)
		checkIssue(t, p, 7, 80, someTicket(), []int{k})
		checkIssue(t, p, 7, 80, someTicket(), []int{0, k, k + 1, 5})
	}
	checkIssue(t, p, 7, 80, someTicket(), draws[:100])
	checkIssue(t, p, 7, 80, someTicket(), draws)
	for _, count := range []int{0, 1, 98, 99, 100} {
		checkIssue(t, ticketParams, 7, 80, someTicket(), append(make([]int, count), 5))
		checkIssue(t, ticketParams, 7, 80, someTicket(), slices.Repeat([]int{5}, count+1))
	}
	if _, i, ok := impl.Issue(ticketParams, 7, 80, someTicket(), append(make([]int, 99), 5)); i != 99 || !ok {
		t.Errorf("the last of 100 draws: %d, %t", i, ok)
	}
}

func checkNotIssued(t *testing.T, p impl.Params, secret, issuer int, x impl.Ticket, draws []int) {
	t.Helper()
	if framed, i, ok := impl.Issue(p, secret, issuer, x, draws); framed != "" || i != -1 || ok {
		t.Errorf("Issue(%v, %d, %d, %+v, %d draws) = %q, %d, %t", p, secret, issuer, x, len(draws), framed, i, ok)
	}
	checkIssue(t, p, secret, issuer, x, draws)
}

func TestIssueRefuses(t *testing.T) {
	draws := []int{5, 9, 11}
	wrong := someTicket()
	wrong.Legs[1].Day = 16
	for _, x := range []impl.Ticket{wrong, {}, {Id: 1, Class: 1}, named("\n"), named(strings.Repeat("A", 41))} {
		checkNotIssued(t, ticketParams, ticketSecret, ticketIssuer, x, draws)
	}
	for _, issuer := range []int{math.MinInt, -1, 10000, math.MaxInt} {
		checkNotIssued(t, ticketParams, ticketSecret, issuer, someTicket(), draws)
	}
	for _, secret := range []int{math.MinInt, -1, 0, 10007, math.MaxInt} {
		checkNotIssued(t, ticketParams, secret, ticketIssuer, someTicket(), draws)
	}
	for _, p := range noGroups {
		checkNotIssued(t, p, 1, ticketIssuer, someTicket(), draws)
	}
	for _, list := range [][]int{nil, {}, {0}, {-1, 0, 10007, math.MinInt, math.MaxInt}, slices.Repeat([]int{5}, 101)} {
		checkNotIssued(t, ticketParams, ticketSecret, ticketIssuer, someTicket(), list)
	}
	checkNotIssued(t, noGroups[0], 0, -1, wrong, nil)
}

func TestWithAnotherIssuerNothingIsRead(t *testing.T) {
	framed, open := someIssued()
	for issuer := -2; issuer <= 10001; issuer++ {
		got, said := impl.Read(ticketParams, open, issuer, framed)
		if issuer == ticketIssuer {
			if said != impl.ReadOk || !sameTicket(got, someTicket()) {
				t.Errorf("its own issuer reads %+v, %d", got, said)
			}
		} else if said != impl.ReadFrame || !sameTicket(got, impl.Ticket{}) {
			t.Errorf("issuer %d reads %+v, %d", issuer, got, said)
		}
	}
	for _, issuer := range edgeNumbers {
		checkRead(t, ticketParams, open, issuer, framed)
	}
}

func TestWhatIsReadAsATicketVerifies(t *testing.T) {
	framed, open := someIssued()
	seen := map[int]int{}
	for i := range framed {
		for bit := range 8 {
			b := []byte(framed)
			b[i] ^= 1 << bit
			seen[checkRead(t, ticketParams, open, ticketIssuer, string(b))]++
		}
	}
	p := groups[0]
	r := rand.New(rand.NewSource(6))
	for range 4000 {
		m := impl.Mark{R: r.Intn(p.Q + 2), S: r.Intn(p.Q + 2)}
		text, _ := wantFrame(80, m, []string{wantPlain(someTicket()), wantPlain(leastTicket()), "no ticket", ""}[r.Intn(4)])
		seen[checkRead(t, p, openOf(p, 7), 80, text)]++
	}
	for code := range 4 {
		if seen[code] == 0 {
			t.Errorf("no reading of code %d was tried", code)
		}
	}
}

func TestReadWithKeysThatDoNotFit(t *testing.T) {
	framed, open := someIssued()
	p := ticketParams
	checkCodeRead(t, p, open, ticketIssuer, framed, impl.ReadOk)
	for _, key := range append([]int{openOf(p, 6), openOf(p, 8), open - 1, open + 1, open - p.P, open + p.P, -open, 0, 1, p.P - 1, p.P}, edgeNumbers...) {
		checkCodeRead(t, p, key, ticketIssuer, framed, impl.ReadSign)
	}
	for _, q := range append(append([]impl.Params{{P: p.P, Q: p.Q, G: p.G + 1}, {P: p.P + 2, Q: p.Q, G: p.G}, {P: p.P, Q: p.Q + 2, G: p.G}, {P: p.G, Q: p.Q, G: p.P}}, groups...), noGroups...) {
		checkCodeRead(t, q, open, ticketIssuer, framed, impl.ReadSign)
	}
	m, _ := wantMark(p, ticketSecret, wantPlain(someTicket()), 5)
	for _, n := range []impl.Mark{{R: m.S, S: m.R}, {R: m.R + 1, S: m.S}, {R: m.R, S: m.S + 1}, {R: m.R + p.Q, S: m.S}, {R: m.R, S: m.S + p.Q}, {R: m.R}, {S: m.S}, {}, {R: p.Q, S: m.S}, {R: m.R, S: p.Q}} {
		text, _ := wantFrame(ticketIssuer, n, wantPlain(someTicket()))
		checkCodeRead(t, p, open, ticketIssuer, text, impl.ReadSign)
	}
	other, _ := wantFrame(ticketIssuer, m, wantPlain(leastTicket()))
	checkCodeRead(t, p, open, ticketIssuer, other, impl.ReadSign)
}

// signedFrame frames a text with a mark that verifies under secret 7.
func signedFrame(issuer int, plain string) string {
	m, ok := impl.Mark{}, false
	for k := 5; !ok; k++ {
		m, ok = wantMark(ticketParams, ticketSecret, plain, k)
	}
	framed, _ := wantFrame(issuer, m, plain)
	return framed
}

func TestTextsThatVerifyAndAreNoTickets(t *testing.T) {
	_, open := someIssued()
	plain := wantPlain(someTicket())
	checkCodeRead(t, ticketParams, open, ticketIssuer, signedFrame(ticketIssuer, plain), impl.ReadOk)
	for _, s := range []string{
		"", "no ticket", plain[:len(plain)-1], plain + "\n", plain + "x", " " + plain, strings.Replace(plain, "7", "07", 1), strings.Replace(plain, "15\n", "14\n", 1),
		strings.Replace(plain, "A  B", "A\x7fB", 1), strings.Replace(plain, "1 2\n", "1 0\n", 1), plain + plain, strings.Repeat("a", impl.MaxPlain), "\x00\xff", plain[:20],
	} {
		checkCodeRead(t, ticketParams, open, ticketIssuer, signedFrame(ticketIssuer, s), impl.ReadText)
	}
}

func TestWhichReasonOfReadingIsToldFirst(t *testing.T) {
	p := ticketParams
	framed, open := someIssued()
	unsigned, _ := wantFrame(ticketIssuer, impl.Mark{R: 1, S: 1}, "no ticket")
	checkCodeRead(t, p, open, ticketIssuer, unsigned, impl.ReadSign)
	checkCodeRead(t, p, open, ticketIssuer+1, unsigned, impl.ReadFrame)
	checkCodeRead(t, p, open, ticketIssuer+1, signedFrame(ticketIssuer, "no ticket"), impl.ReadFrame)
	checkCodeRead(t, p, open+1, ticketIssuer, signedFrame(ticketIssuer, "no ticket"), impl.ReadSign)
	checkCodeRead(t, p, open+1, ticketIssuer+1, framed, impl.ReadFrame)
	checkCodeRead(t, noGroups[0], 0, -1, framed, impl.ReadFrame)
	checkCodeRead(t, noGroups[0], 0, ticketIssuer, framed, impl.ReadSign)
	for _, issuer := range []int{0, ticketIssuer, -1} {
		for _, s := range []string{"", "no frame", framed[:len(framed)-1], framed + "x", framed[1:], "#UT01", framed[:17], framed[:len(framed)-1] + "\xff"} {
			checkCodeRead(t, p, open, issuer, s, impl.ReadFrame)
			checkCodeRead(t, noGroups[0], -1, issuer, s, impl.ReadFrame)
		}
	}
	checkCodeRead(t, p, open, 0, signedFrame(0, wantPlain(someTicket())), impl.ReadOk)
	checkCodeRead(t, p, open, 9999, signedFrame(9999, wantPlain(mostTicket())), impl.ReadOk)
}

func TestAFramePackedOtherwiseIsReadToo(t *testing.T) {
	_, open := someIssued()
	plain := wantPlain(someTicket())
	framed := signedFrame(ticketIssuer, plain)
	stored := storedText(len(plain), 65535-len(plain), plain)
	checkCodeRead(t, ticketParams, open, ticketIssuer, framed[:17]+fmt.Sprintf("%04d", len(stored))+stored, impl.ReadOk)
}

func TestTicketsWriteIntoNoArgument(t *testing.T) {
	room := slices.Repeat(someTicket().Legs, 4)
	kept := slices.Clone(room)
	draws := []int{0, 10007, 5, 6, 7, 8}
	keptDraws := slices.Clone(draws)
	x := someTicket()
	for n := range len(room) + 1 {
		x.Legs = room[:n]
		impl.TicketOk(x)
		impl.PutTicket(x)
		for d := range len(draws) + 1 {
			impl.Issue(ticketParams, ticketSecret, ticketIssuer, x, draws[:d])
		}
	}
	if !slices.Equal(room, kept) || !slices.Equal(draws, keptDraws) {
		t.Errorf("the legs are now %v, the draws %v", room, draws)
	}
}

func TestTicketsAnswerNewMemory(t *testing.T) {
	framed, open := someIssued()
	a, _ := impl.GetTicket(wantPlain(someTicket()))
	b, _ := impl.Read(ticketParams, open, ticketIssuer, framed)
	for _, x := range []impl.Ticket{a, b} {
		clear(x.Legs)
	}
	if got, ok := impl.GetTicket(wantPlain(someTicket())); !ok || !sameTicket(got, someTicket()) {
		t.Errorf("GetTicket = %+v after an earlier answer was changed", got)
	}
	if got, said := impl.Read(ticketParams, open, ticketIssuer, framed); said != impl.ReadOk || !sameTicket(got, someTicket()) {
		t.Errorf("Read = %+v after an earlier answer was changed", got)
	}
}

func TestTicketsAnswerAtAnyArguments(t *testing.T) {
	framed, open := someIssued()
	for _, a := range edgeNumbers {
		for _, b := range edgeNumbers {
			x := impl.Ticket{Id: a, Class: b, Price: a, First: b, Last: a, Legs: []impl.Leg{{Train: a, Day: b, From: a, To: b, Coach: a, Seat: b}}}
			checkTicket(t, x, rightTicket(x))
			checkFrame(t, a, impl.Mark{R: b, S: a}, "abc")
			checkIssue(t, ticketParams, a, b, someTicket(), []int{a, b})
			checkIssue(t, impl.Params{P: a, Q: b, G: a}, b, a, x, nil)
			checkRead(t, impl.Params{P: b, Q: a, G: b}, a, ticketIssuer, framed)
			checkRead(t, ticketParams, open, a, framed)
		}
	}
	for _, s := range append(signTexts(), plainTexts()...) {
		checkPlain(t, s)
		checkUnframe(t, s)
		checkUnframe(t, impl.FrameHead+s)
		checkUnframe(t, framed[:17]+s)
		checkRead(t, ticketParams, open, ticketIssuer, s)
	}
	long := strings.Repeat("leg 1 2 3 4 5 6\n", 100000)
	checkPlain(t, long)
	checkUnframe(t, framed+long)
}
