package tests

import (
	"fmt"
	"maps"
	"math"
	"math/rand"
	"regexp"
	"slices"
	"strconv"
	"strings"
	"sync"
	"testing"

	"loop.example/g00211/impl"
)

const (
	mostScript = 20000
	mostLines  = 200
)

func copiedBooth(d impl.Booth) impl.Booth {
	return impl.Booth{Platform: copiedPlatform(d.Platform), Hand: copiedHand(d.Hand), Centre: copiedCentre(d.Centre)}
}

func roomyBooth(d impl.Booth) impl.Booth {
	return impl.Booth{Platform: roomyPlatform(d.Platform), Hand: roomyHand(d.Hand), Centre: roomyCentre(d.Centre)}
}

func wholeBooth(d impl.Booth) impl.Booth {
	return impl.Booth{Platform: wholePlatform(d.Platform), Hand: wholeHand(d.Hand), Centre: wholeCentre(d.Centre)}
}

func sameBooth(a, b impl.Booth) bool {
	return samePlatform(a.Platform, b.Platform) && sameHand(a.Hand, b.Hand) && sameCentre(a.Centre, b.Centre)
}

func boothSpans(d impl.Booth) []span {
	return slices.Concat(platformSpans(d.Platform), handSpans(d.Hand), centreSpans(d.Centre))
}

func boothLists(d impl.Booth) []span {
	return slices.Concat(listSpans(d.Platform.Start), listSpans(d.Platform.Office), handSpans(d.Hand), centreSpans(d.Centre))
}

func tellBooth(d impl.Booth) string {
	return fmt.Sprintf("{platform %s, hand %s, centre %s}", tell(d.Platform), tellHand(d.Hand), tellCentre(d.Centre))
}

// countsOfLines tells how many numbers stand in each kind of line; behind
// those of a sale there is a name.
func countsOfLines() map[string]int {
	return map[string]int{"sell": 6, "change": 5, "back": 2, "day": 2, "sync": 0, "crash": 1, "ticket": 1, "check": 4, "seats": 4, "fare": 4, "off": 1}
}

var formsOfLines = func() map[string]*regexp.Regexp {
	forms := map[string]*regexp.Regexp{}
	for kind, count := range countsOfLines() {
		form := kind + strings.Repeat(" (0|[1-9][0-9]{0,8})", count)
		if kind == "sell" {
			form += " (.*)"
		}
		forms[kind] = regexp.MustCompile(`(?s)\A` + form + `\z`)
	}
	return forms
}()

func wantSaid(d impl.Booth, op impl.Op) (impl.Booth, string) {
	p, r := wantOp(d.Platform, op)
	d.Platform = p
	return d, fmt.Sprintf("said %d %d %d", r.Said, r.Order, r.Amount)
}

func wantRidesOf(d impl.Booth, day, from, to int) []impl.Ride {
	rides, _, _ := wantEarliest(d.Platform.Office.Lines, from, to, day, 0)
	return rides
}

func wantChecked(d impl.Booth, number, draw, train, day int) (impl.Booth, string) {
	x, ok := wantTicketFor(d.Platform.Office, number)
	framed, _, issued := wantIssue(ticketParams, ticketSecret, ticketIssuer, x, []int{draw})
	_, painted := wantPaint(framed)
	if !ok || !issued || !painted {
		return d, "none"
	}
	h, said := wantInspect(d.Hand, framed, train, day)
	d.Hand = h
	return d, strconv.Itoa(said)
}

func wantTakenOff(d impl.Booth, id int) (impl.Booth, string) {
	c, ok := wantRevoke(d.Centre, id)
	d.Centre = c
	d.Hand, _ = wantUpdate(d.Hand, c.Version, c.Off)
	return d, map[bool]string{true: "done", false: "none"}[ok]
}

func wantOfKind(d impl.Booth, kind string, n []int, name string) (impl.Booth, string) {
	o := d.Platform.Office
	switch kind {
	case "sell":
		w := impl.Want{Request: n[0], Name: name, Class: n[1], Card: n[2], Rides: wantRidesOf(d, n[3], n[4], n[5])}
		return wantSaid(d, wantOpOf(w))
	case "change":
		return wantSaid(d, wantOpOf(changeOf(n[0], n[1], wantRidesOf(d, n[2], n[3], n[4])...)))
	case "back":
		return wantSaid(d, wantOpOf(backOf(n[0], n[1])))
	case "day":
		return wantSaid(d, wantOpOf(dayOf(n[0], n[1])))
	case "sync":
		return wantSaid(d, syncOp())
	case "crash":
		return wantSaid(d, crashOp(n[0]))
	case "ticket":
		if x, ok := wantTicketFor(o, n[0]); ok {
			return d, strings.Join(strings.Split(wantPlain(x), "\n"), ";")
		}
		return d, "none"
	case "check":
		return wantChecked(d, n[0], n[1], n[2], n[3])
	case "seats":
		if x := trainOf(o.Lines, n[0]); rightAsk(x, n[1], n[2], n[3]) {
			return d, strconv.Itoa(len(wantFreeSeats(o.Holds, x, n[1], n[2], n[3])))
		}
		return d, "-1"
	case "fare":
		amount, code := wantFare(o.Tariff, n[0], n[1], n[2], n[3])
		return d, fmt.Sprintf("%d %d", amount, code)
	}
	return wantTakenOff(d, n[0])
}

func wantDeskLine(d impl.Booth, line string) (impl.Booth, string) {
	d = copiedBooth(d)
	for kind, form := range formsOfLines {
		m := form.FindStringSubmatch(line)
		if m == nil {
			continue
		}
		n, name := []int{}, ""
		for i, word := range m[1:] {
			if i == 6 {
				name = word
				continue
			}
			number, _ := strconv.Atoi(word)
			n = append(n, number)
		}
		return wantOfKind(d, kind, n, name)
	}
	return d, "what"
}

// checkDeskLine also sees that nothing was written into what was handed in,
// and that all that was answered is new memory.
func checkDeskLine(t *testing.T, d impl.Booth, line string) (impl.Booth, string) {
	t.Helper()
	want, say := wantDeskLine(d, line)
	asked, text := roomyBooth(d), strings.Clone(line)
	kept := wholeBooth(asked)
	next, said := impl.DeskLine(asked, text)
	if said != say || !sameBooth(next, want) {
		t.Fatalf("DeskLine(%s, %.100q) = %s, %q, want %s, %q", tellBooth(d), line, tellBooth(next), said, tellBooth(want), say)
	}
	if !sameBooth(wholeBooth(asked), kept) || text != line {
		t.Fatalf("DeskLine wrote into %s or %.100q", tellBooth(asked), line)
	}
	handed := append(boothSpans(asked), textSpan(text))
	checkNew(t, append(boothSpans(next), textSpan(said)), handed)
	checkApart(t, boothLists(next))
	return next, said
}

// checkKnows is what holds behind every line of a booth that began with
// DeskStart.
func checkKnows(t *testing.T, d impl.Booth) {
	t.Helper()
	if !impl.PlatformOk(d.Platform) || !impl.HandOk(d.Hand) || !impl.CentreOk(d.Centre) {
		t.Fatalf("the booth is not right: %s", tellBooth(d))
	}
	if d.Hand.Version != d.Centre.Version || !slices.Equal(d.Hand.Off, d.Centre.Off) || len(d.Centre.Off) != d.Centre.Version {
		t.Fatalf("the device knows %d %v, the centre %d %v", d.Hand.Version, d.Hand.Off, d.Centre.Version, d.Centre.Off)
	}
	fresh := begun(t, d.Platform.Start.Today)
	if !sameOffice(d.Platform.Start, fresh.Platform.Start) || len(d.Centre.Controls) > 0 {
		t.Fatalf("the booth began otherwise: %s", tellBooth(d))
	}
	h := d.Hand
	h.Version, h.Off, h.Seen = 0, nil, nil
	if !sameHand(h, fresh.Hand) {
		t.Fatalf("the device began otherwise: %s", tellHand(d.Hand))
	}
}

func begun(t *testing.T, today int) impl.Booth {
	t.Helper()
	d, ok := impl.DeskStart(today)
	if !ok {
		t.Fatalf("no booth begins on day %d", today)
	}
	return d
}

func scriptOf(lines []string) string {
	if len(lines) == 0 {
		return ""
	}
	return strings.Join(lines, "\n") + "\n"
}

func checkScript(t *testing.T, script, want string) {
	t.Helper()
	text := strings.Clone(script)
	got := impl.Desk(text)
	if got != want {
		t.Fatalf("Desk(%.300q) = %.300q, want %.300q", script, got, want)
	}
	if text != script {
		t.Fatalf("Desk wrote into %.300q", script)
	}
	checkNew(t, []span{textSpan(got)}, []span{textSpan(text)})
}

// checkLineByLine goes line by line, and asks of each beginning what Desk tells of
// it. It answers what was told, and the booth that is left.
func checkLineByLine(t *testing.T, lines ...string) (impl.Booth, []string) {
	t.Helper()
	d := begun(t, 5)
	answers := []string{}
	whole := impl.Desk(scriptOf(lines))
	for i, line := range lines {
		var say string
		d, say = checkDeskLine(t, d, line)
		checkKnows(t, d)
		answers = append(answers, say)
		told := scriptOf(answers)
		checkScript(t, scriptOf(lines[:i+1]), told)
		if !strings.HasPrefix(whole, told) {
			t.Fatalf("Desk(%.300q) = %.300q, which does not begin with %.300q", scriptOf(lines), whole, told)
		}
	}
	return d, answers
}

// checkTalk takes lines, each with what it is answered by.
func checkTalk(t *testing.T, talk ...string) impl.Booth {
	t.Helper()
	lines, answers := []string{}, []string{}
	for pair := range slices.Chunk(talk, 2) {
		lines, answers = append(lines, pair[0]), append(answers, pair[1])
	}
	d, got := checkLineByLine(t, lines...)
	for i := range lines {
		if got[i] != answers[i] {
			t.Fatalf("line %d, %q, is answered by %q, want %q", i+1, lines[i], got[i], answers[i])
		}
	}
	return d
}

// checkNext asks for one more line on a booth, and for its answer.
func checkNext(t *testing.T, d impl.Booth, line, want string) impl.Booth {
	t.Helper()
	next, say := checkDeskLine(t, d, line)
	if say != want {
		t.Fatalf("%.100q is answered by %q, want %q", line, say, want)
	}
	return next
}

// checkLeavesAll asks for an answer and for nothing else.
func checkLeavesAll(t *testing.T, d impl.Booth, line, want string) {
	t.Helper()
	if next := checkNext(t, d, line, want); !sameBooth(next, d) {
		t.Fatalf("behind %.100q %s is %s", line, tellBooth(d), tellBooth(next))
	}
}

func TestDeskConstants(t *testing.T) {
	if impl.MaxScript != 20000 {
		t.Errorf("MaxScript is %d", impl.MaxScript)
	}
}

// toldOffice is what the chapter tells, written out.
func toldOffice(today int) impl.Office {
	return impl.Office{
		Lines: []impl.Train{
			{Id: 10, Days: 127, Coaches: 1, Seats: 2, Stops: []impl.Stop{{Station: 1, Arr: 60, Dep: 60}, {Station: 2, Arr: 100, Dep: 105}, {Station: 3, Arr: 200, Dep: 200}}},
			{Id: 20, Days: 127, Stops: []impl.Stop{{Station: 3, Arr: 230, Dep: 230}, {Station: 4, Arr: 300, Dep: 300}}},
		},
		Tariff: []impl.Edge{{A: 1, B: 2, Cost: 500}, {A: 2, B: 3, Cost: 700}, {A: 1, B: 3, Cost: 1100}, {A: 3, B: 4, Cost: 250}},
		Today:  today,
	}
}

func toldBooth(today int) impl.Booth {
	p := impl.Params{P: 240169, Q: 10007, G: 205555}
	return impl.Booth{
		Platform: impl.Platform{Start: toldOffice(today), Office: toldOffice(today)},
		Hand:     impl.Hand{Device: 1, Params: p, Open: powerOf(205555, 7, 240169), Issuer: 80},
	}
}

func TestBoothsBegin(t *testing.T) {
	for _, today := range []int{0, 1, 4, 5, 6, 14, 127, 1000, 89999, 90000} {
		d, ok := impl.DeskStart(today)
		if !ok || !sameBooth(d, toldBooth(today)) {
			t.Errorf("DeskStart(%d) = %s, %t", today, tellBooth(d), ok)
		}
		checkApart(t, boothLists(d))
		checkKnows(t, d)
		other, _ := impl.DeskStart(today)
		checkNew(t, boothLists(d), boothLists(other))
	}
}

func TestBoothsThatDoNotBegin(t *testing.T) {
	for _, today := range append(slices.Clone(edgeNumbers), -5, -1, 90001, 90002, 99999, 100000) {
		if within(today, 0, 90000) {
			continue
		}
		if d, ok := impl.DeskStart(today); ok || !sameBooth(d, impl.Booth{}) {
			t.Errorf("DeskStart(%d) = %s, %t", today, tellBooth(d), ok)
		}
	}
}

// What was answered can be written into without harm to a later start.
func TestBoothsBeginAnew(t *testing.T) {
	for range 3 {
		d := begun(t, 5)
		wipe(d.Platform.Start)
		wipe(d.Platform.Office)
		if again := begun(t, 5); !sameBooth(again, toldBooth(5)) {
			t.Fatalf("DeskStart(5) = %s", tellBooth(again))
		}
	}
	checkTalk(t, "seats 10 14 0 2", "2", "sell 1 2 0 14 1 4 A", "said 0 1 1350")
}

func TestATalk(t *testing.T) {
	d := checkTalk(t,
		"seats 10 14 0 2", "2",
		"fare 1 4 2 0", "1350 0",
		"sell 1 2 0 14 1 4 A B", "said 0 1 1350",
		"ticket 1", "head 1 2 1350 14 14;name A B;leg 10 14 1 3 1 1;leg 20 14 3 4 0 0;",
		"seats 10 14 0 2", "1",
		"sync", "said 0 0 0",
		"check 1 5 10 14", "0",
		"check 1 5 10 14", "5",
		"check 1 5 20 14", "0",
		"off 1", "done",
		"check 1 5 10 14", "4",
		"off 1", "none",
		"change 2 1 15 2 4", "said 0 2 -400",
		"ticket 1", "none",
		"ticket 2", "head 2 2 950 15 15;name A B;leg 10 15 2 3 1 1;leg 20 15 3 4 0 0;",
		"day 3 14", "said 0 0 0",
		"back 4 2", "said 0 2 -712",
		"crash 0", "said 0 0 0",
		"ticket 1", "head 1 2 1350 14 14;name A B;leg 10 14 1 3 1 1;leg 20 14 3 4 0 0;",
		"what", "what",
	)
	seen := []impl.Control{
		{Device: 1, No: 1, Ticket: 1, Train: 10, Day: 14}, {Device: 1, No: 2, Ticket: 1, Train: 10, Day: 14, Said: 5},
		{Device: 1, No: 3, Ticket: 1, Train: 20, Day: 14}, {Device: 1, No: 4, Ticket: 1, Train: 10, Day: 14, Said: 4},
	}
	if !slices.Equal(d.Hand.Seen, seen) || !slices.Equal(d.Hand.Off, []int{1}) || d.Hand.Version != 1 || !sameCentre(d.Centre, impl.Centre{Version: 1, Off: []int{1}}) {
		t.Errorf("behind it all there is %s", tellBooth(d))
	}
}

func TestTheEmptyScript(t *testing.T) {
	checkScript(t, "", "")
}

func TestTextsThatDoNotEndWithANewline(t *testing.T) {
	for _, text := range []string{"sync", "what", " ", "x", "\nsync", "sync\nsync", "sync\n ", "\n\n.", "sync\r", "sync\n\x00", "\n\xff", "seats 10 14 0 2"} {
		checkScript(t, text, "long\n")
		checkScript(t, strings.Repeat("sync\n", 100)+text, "long\n")
	}
}

// longScript is of so many bytes, of which the last is a newline.
func longScript(size int) string {
	return strings.Repeat("x", size-1) + "\n"
}

func TestScriptsOfManyBytes(t *testing.T) {
	for _, size := range []int{1, 2, 19998, 19999, 20000} {
		checkScript(t, longScript(size), "what\n")
	}
	for _, size := range []int{20001, 20002, 40000, 1 << 20} {
		checkScript(t, longScript(size), "long\n")
	}
	begin := "sell 1 2 0 14 1 4 A\nticket 1\n"
	told := "said 0 1 1350\nhead 1 2 1350 14 14;name A;leg 10 14 1 3 1 1;leg 20 14 3 4 0 0;\n"
	checkScript(t, begin+longScript(mostScript-len(begin)), told+"what\n")
	checkScript(t, begin+longScript(mostScript+1-len(begin)), "long\n")
	checkScript(t, strings.Repeat("x", mostScript), "long\n")
	checkScript(t, strings.Repeat("x", mostScript)+"\n", "long\n")
	checkScript(t, strings.Repeat("\xc3\xa4", mostScript/2-1)+"y\n", "what\n")
	checkScript(t, strings.Repeat("\xc3\xa4", mostScript/2)+"\n", "long\n")
}

func TestScriptsOfManyLines(t *testing.T) {
	for _, line := range []string{"", "sync", "ticket 1", "what", "seats 10 14 0 2"} {
		_, say := wantDeskLine(toldBooth(5), line)
		for _, count := range []int{1, 2, 199, 200} {
			checkScript(t, strings.Repeat(line+"\n", count), strings.Repeat(say+"\n", count))
		}
		for _, count := range []int{201, 202, 400, 3000} {
			checkScript(t, strings.Repeat(line+"\n", count), "long\n")
		}
		checkScript(t, strings.Repeat(line+"\n", 199)+"x", "long\n")
		checkScript(t, strings.Repeat(line+"\n", 200)+"x", "long\n")
	}
	both := strings.Repeat(longScript(mostScript/mostLines), mostLines)
	checkScript(t, both, strings.Repeat("what\n", mostLines))
	checkScript(t, both[1:]+"\n", "long\n")
	checkScript(t, "x"+both, "long\n")
}

// rightLinesOfEach has one line of each kind that is answered otherwise than
// by what, on a booth with order 1.
func rightLinesOfEach() map[string]string {
	return map[string]string{
		"sell": "sell 2 2 0 14 1 2 A", "change": "change 2 1 15 1 2", "back": "back 2 1", "day": "day 2 9", "sync": "sync", "crash": "crash 0",
		"ticket": "ticket 1", "check": "check 1 5 10 14", "seats": "seats 10 14 0 2", "fare": "fare 1 4 2 0", "off": "off 1",
	}
}

func boothWithOrder(t *testing.T) impl.Booth {
	t.Helper()
	return checkTalk(t, "sell 1 2 0 14 1 4 A B", "said 0 1 1350")
}

func TestEachKindOfLine(t *testing.T) {
	d := boothWithOrder(t)
	for kind, want := range map[string]string{
		"sell": "said 0 2 500", "change": "said 0 2 -850", "back": "said 0 1 -1350", "day": "said 0 0 0", "sync": "said 0 0 0", "crash": "said 0 0 0",
		"ticket": "head 1 2 1350 14 14;name A B;leg 10 14 1 3 1 1;leg 20 14 3 4 0 0;", "check": "0", "seats": "1", "fare": "1350 0", "off": "done",
	} {
		line := rightLinesOfEach()[kind]
		next := checkNext(t, d, line, want)
		checkKnows(t, next)
		asks := kind == "ticket" || kind == "seats" || kind == "fare"
		if sameBooth(next, d) != asks {
			t.Errorf("behind %q %s is %s", line, tellBooth(d), tellBooth(next))
		}
	}
}

func TestLinesWithAWordTooFew(t *testing.T) {
	d := boothWithOrder(t)
	for kind, line := range rightLinesOfEach() {
		words := strings.Split(line, " ")
		for i := range words {
			begin := strings.Join(words[:i], " ")
			checkLeavesAll(t, d, begin, "what")
			if i < 7 {
				checkLeavesAll(t, d, begin+" ", "what")
			}
		}
		if kind == "sync" {
			continue
		}
		for i := range words {
			shorter := slices.Delete(slices.Clone(words), i, i+1)
			checkLeavesAll(t, d, strings.Join(shorter, " "), "what")
		}
	}
}

func TestLinesWithAWordTooMany(t *testing.T) {
	d := boothWithOrder(t)
	for kind, line := range rightLinesOfEach() {
		for _, more := range []string{"1", "0", "x", "", "A B", "2 3 4 5 6 7", "sync", strings.Repeat(" 1", 500)} {
			if kind != "sell" {
				checkLeavesAll(t, d, line+" "+more, "what")
			}
		}
		words := strings.Split(line, " ")
		for i := range min(len(words), 1+countsOfLines()[kind]) {
			longer := strings.Join(slices.Insert(slices.Clone(words), i, "x"), " ")
			checkLeavesAll(t, d, longer, "what")
		}
	}
	checkNext(t, d, "sell 2 2 0 14 1 2 7 A", "said 0 2 500")
}

func TestLinesWithOtherBlanks(t *testing.T) {
	d := boothWithOrder(t)
	for kind, line := range rightLinesOfEach() {
		checkLeavesAll(t, d, " "+line, "what")
		checkLeavesAll(t, d, "  "+line, "what")
		if kind != "sell" {
			checkLeavesAll(t, d, line+" ", "what")
			checkLeavesAll(t, d, line+"  ", "what")
		}
		words := strings.Split(line, " ")
		for i := 1; i < min(len(words), 1+countsOfLines()[kind]); i++ {
			for _, gap := range []string{"  ", "   ", "\t", " \t", "\t ", "", "\u00a0", "\x00", "_", ",", "\r", "\n", " \n", "\n "} {
				checkLeavesAll(t, d, strings.Join(words[:i], " ")+gap+strings.Join(words[i:], " "), "what")
			}
		}
		for _, other := range []string{"\t", "\r", "\x00", "\u00a0", ";", "\n"} {
			checkLeavesAll(t, d, other+line, "what")
			if kind != "sell" {
				checkLeavesAll(t, d, line+other, "what")
			}
		}
	}
}

func TestWordsThatAreNoKindOfLine(t *testing.T) {
	d := boothWithOrder(t)
	for _, line := range []string{
		"", " ", "  ", "what", "long", "none", "done", "said 0 0 0", "sync sync", "SYNC", "Sync", "syn", "syncs", "sy nc", "0", "1", "1 2 3", "head 1 2 1350 14 14", "told 1 0 1 1350",
		"today 5", "order 1", "hold 10", "name A B", "leg 10 14 1 3 1 1", "quit", "-", ".", "\x00", "\xff\xfe", "\u00e4", "sell", "buy 1 2 0 14 1 4 A", "#UT01", "offs 1", "on 1", "seat 10 14 0 2",
	} {
		checkLeavesAll(t, d, line, "what")
	}
	for kind, line := range rightLinesOfEach() {
		rest := strings.TrimPrefix(line, kind)
		for _, word := range []string{strings.ToUpper(kind), strings.ToUpper(kind[:1]) + kind[1:], kind[1:], kind[:len(kind)-1], kind + "s", kind + kind, "x" + kind, kind + "\x00", ""} {
			checkLeavesAll(t, d, word+rest, "what")
		}
	}
}

// Each number of each kind of line.
func TestNumbersOfALine(t *testing.T) {
	d := boothWithOrder(t)
	for kind, line := range rightLinesOfEach() {
		words := strings.Split(line, " ")
		for i := 1; i <= countsOfLines()[kind]; i++ {
			for _, no := range []string{
				"", "00", "01", "007", "0" + words[i], "+" + words[i], "-" + words[i], "-0", "+0", "-1", "x", words[i] + "x", "x" + words[i], words[i] + ".", words[i] + ".0", "1e3", "0x1", "1_0", "\uff11",
				"1000000000", "0999999999", "9999999999", "18446744073709551616", "4294967297", "9223372036854775807", strings.Repeat("1", 5000), words[i] + "\x00", words[i] + "\n", "\n" + words[i],
			} {
				changed := slices.Clone(words)
				changed[i] = no
				checkLeavesAll(t, d, strings.Join(changed, " "), "what")
			}
			for _, yes := range []string{"0", "9", "10", "999999998", "999999999"} {
				changed := slices.Clone(words)
				changed[i] = yes
				if next, say := checkDeskLine(t, d, strings.Join(changed, " ")); say == "what" {
					t.Errorf("%q is taken for no line", strings.Join(changed, " "))
				} else {
					checkKnows(t, next)
				}
			}
		}
	}
}

func TestNamesAtTheDesk(t *testing.T) {
	most := strings.Repeat("~", 40)
	for _, name := range []string{
		"", " ", "  ", "A", "A B", "A  B", " A", "A ", " A ", "   A   B   ", "1", "1 2 3", "007", "-1", "sync", "A;B", ";", "head 1;", "~", "!", most, " " + most[:38] + " ", strings.Repeat(" ", 40), strings.Repeat("A ", 20), "sell 1 2 0 14 1 2 A",
	} {
		d := checkTalk(t,
			"sell 1 2 0 14 1 2 "+name, "said 0 1 500",
			"ticket 1", "head 1 2 500 14 14;name "+name+";leg 10 14 1 2 1 1;",
			"check 1 9 10 14", "0",
			"change 2 1 15 2 3", "said 0 2 200",
			"ticket 2", "head 2 2 700 15 15;name "+name+";leg 10 15 2 3 1 1;",
			"sync", "said 0 0 0",
			"crash 0", "said 0 0 0",
			"ticket 2", "head 2 2 700 15 15;name "+name+";leg 10 15 2 3 1 1;",
		)
		if d.Platform.Office.Orders[0].Name != name {
			t.Errorf("%q is sold to %q", name, d.Platform.Office.Orders[0].Name)
		}
	}
}

// A sale to what is no name is not written down, so that its request is free.
func TestNamesThatAreNoneAtTheDesk(t *testing.T) {
	d := begun(t, 5)
	for _, name := range []string{
		strings.Repeat("~", 41), strings.Repeat(" ", 41), strings.Repeat("A ", 20) + "A", strings.Repeat("A", 5000), "\x1f", "\x7f", "\x80", "\xff", "\u00e4", "A\tB", "A\r", "\x00", "A\x00", "A\nB", "\n", "A\n", "\nA", "A B\n", strings.Repeat("~", 39) + "\u00e4",
	} {
		checkLeavesAll(t, d, "sell 1 2 0 14 1 2 "+name, "said 1 0 0")
		checkLeavesAll(t, d, "sell 1 2 0 14 9 9 "+name, "said 1 0 0")
		checkLeavesAll(t, d, "sell 01 2 0 14 1 2 "+name, "what")
		if !strings.Contains(name, "\n") {
			checkTalk(t, "sell 1 2 0 14 1 2 "+name, "said 1 0 0", "ticket 1", "none", "sell 1 2 0 14 1 3 A", "said 0 1 1100", "sell 1 2 0 14 1 2 "+name, "said 1 0 0")
		}
	}
}

func TestASaleWithNoBlankBehindItsLastNumber(t *testing.T) {
	checkTalk(t, "sell 1 2 0 14 1 2", "what", "sell 1 2 0 14 1", "what", "sell 1 2 0 14 1 ", "what", "ticket 1", "none", "sell 1 2 0 14 1 2 ", "said 0 1 500", "sell 1 2 0 14 1 2", "what", "sell 1 2 0 14 1 2 ", "said 0 1 500")
}

func TestSalesAtTheDesk(t *testing.T) {
	checkTalk(t,
		"sell 1 2 0 14 1 4 A", "said 0 1 1350",
		"sell 2 1 0 14 1 2 A", "said 0 2 800",
		"sell 3 1 1 14 2 4 A", "said 0 3 1140",
		"sell 4 2 2 14 1 4 A", "said 4 0 0",
		"sell 5 2 3 14 3 4 A", "said 0 4 130",
		"sell 6 2 1 15 1 4 A", "said 0 5 1020",
		"sell 7 2 0 5 1 3 A", "said 0 6 1100",
		"sell 8 2 0 4 1 3 A", "said 2 0 0",
		"sell 9 2 0 90000 1 3 A", "said 0 7 1100",
		"sell 10 2 0 90001 1 3 A", "said 2 0 0",
		"sell 11 2 0 999999999 1 3 A", "said 2 0 0",
		"sell 12 0 0 14 3 4 A", "said 1 0 0",
		"sell 13 3 0 14 3 4 A", "said 1 0 0",
		"sell 14 2 4 14 3 4 A", "said 1 0 0",
		"sell 0 2 0 14 3 4 A", "said 1 0 0",
		"sell 999999999 2 0 14 3 4 A", "said 0 8 250",
		"sell 15 2 0 0 3 4 A", "said 2 0 0",
		"seats 10 14 0 1", "0",
		"seats 10 14 1 2", "0",
		"seats 10 15 0 2", "1",
		"ticket 2", "head 2 1 800 14 14;name A;leg 10 14 1 2 1 2;",
		"ticket 3", "head 3 1 1140 14 14;name A;leg 10 14 2 3 1 2;leg 20 14 3 4 0 0;",
		"ticket 7", "head 7 2 1100 90000 90000;name A;leg 10 90000 1 3 1 1;",
		"ticket 8", "head 8 2 250 14 14;name A;leg 20 14 3 4 0 0;",
		"ticket 9", "none",
	)
}

// From a station to itself, to and from such as are not there, and where no
// train goes.
func TestSalesWithNoRides(t *testing.T) {
	for _, way := range []string{"1 1", "4 4", "9 9", "0 0", "1 9", "9 1", "1 5", "1 0", "0 1", "1 999999999", "999999999 1", "4 1", "2 1", "3 1", "4 3", "3 2"} {
		d := checkTalk(t,
			"sell 1 2 0 14 "+way+" A", "said 2 0 0",
			"sell 1 2 0 14 1 4 A", "said 2 0 0",
			"sell 2 2 0 14 "+way+" ", "said 2 0 0",
			"sell 3 3 0 14 "+way+" A", "said 1 0 0",
			"change 4 1 14 "+way, "said 6 0 0",
			"sell 5 2 0 14 1 4 A", "said 0 1 1350",
			"change 6 1 14 "+way, "said 2 0 0",
			"ticket 1", "head 1 2 1350 14 14;name A;leg 10 14 1 3 1 1;leg 20 14 3 4 0 0;",
			"change 6 1 15 1 4", "said 2 0 0",
			"change 7 1 15 1 4", "said 0 2 0",
		)
		if len(d.Platform.Office.Orders) != 2 || len(d.Platform.Office.Told) != 7 {
			t.Errorf("behind it all there is %s", tellBooth(d))
		}
	}
}

func TestChangesAtTheDesk(t *testing.T) {
	checkTalk(t,
		"sell 1 2 0 14 1 4 A", "said 0 1 1350",
		"change 2 1 15 1 3", "said 0 2 -250",
		"change 3 1 15 1 3", "said 6 0 0",
		"day 4 10", "said 0 0 0",
		"change 5 2 15 1 4", "said 0 3 525",
		"ticket 3", "head 3 2 1350 15 15;name A;leg 10 15 1 3 1 1;leg 20 15 3 4 0 0;",
		"day 6 15", "said 0 0 0",
		"change 7 3 14 1 3", "said 2 0 0",
		"back 8 3", "said 0 3 -812",
		"back 9 3", "said 6 0 0",
		"change 10 3 15 1 3", "said 6 0 0",
		"sell 11 1 2 16 1 3 B", "said 0 4 880",
		"day 12 17", "said 0 0 0",
		"change 13 4 17 1 3", "said 7 0 0",
		"back 14 4", "said 7 0 0",
		"change 15 0 17 1 3", "said 6 0 0",
		"change 16 5 17 1 3", "said 6 0 0",
		"change 17 999999999 17 1 3", "said 6 0 0",
		"back 18 0", "said 6 0 0",
		"back 19 5", "said 6 0 0",
		"change 0 4 17 1 3", "said 1 0 0",
		"back 0 4", "said 1 0 0",
		"change 20 4 90001 1 3", "said 7 0 0",
	)
}

// A change gives its own seat free first.
func TestAChangeOnAFullTrain(t *testing.T) {
	checkTalk(t,
		"sell 1 2 0 14 1 3 A", "said 0 1 1100",
		"sell 2 2 0 14 1 3 B", "said 0 2 1100",
		"sell 3 2 0 15 1 3 C", "said 0 3 1100",
		"change 4 3 14 1 3", "said 4 0 0",
		"ticket 3", "head 3 2 1100 15 15;name C;leg 10 15 1 3 1 1;",
		"change 5 2 14 1 2", "said 0 4 -600",
		"seats 10 14 1 2", "1",
		"change 6 3 14 2 4", "said 0 5 -150",
		"ticket 5", "head 5 2 950 14 14;name C;leg 10 14 2 3 1 2;leg 20 14 3 4 0 0;",
		"seats 10 15 0 2", "2",
	)
}

func TestDaysAtTheDesk(t *testing.T) {
	checkTalk(t,
		"day 1 5", "said 1 0 0", "day 2 4", "said 1 0 0", "day 3 0", "said 1 0 0", "day 4 6", "said 0 0 0", "day 5 6", "said 1 0 0",
		"sell 6 2 0 5 1 2 A", "said 2 0 0", "sell 7 2 0 6 1 2 A", "said 0 1 500", "day 8 90001", "said 1 0 0", "day 9 999999999", "said 1 0 0",
		"day 10 90000", "said 0 0 0", "day 11 90000", "said 1 0 0", "day 0 90000", "said 1 0 0", "ticket 1", "head 1 2 500 6 6;name A;leg 10 6 1 2 1 1;", "back 12 1", "said 7 0 0",
	)
}

func TestRequestsThatComeAgain(t *testing.T) {
	d := checkTalk(t,
		"sell 1 2 0 14 1 4 A", "said 0 1 1350",
		"sell 1 2 0 14 1 4 A", "said 0 1 1350",
		"sell 1 1 2 15 2 3 B", "said 0 1 1350",
		"back 1 1", "said 0 1 1350",
		"day 1 9", "said 0 1 1350",
		"change 1 1 15 1 2", "said 0 1 1350",
		"sell 1 2 0 14 1 4 "+strings.Repeat("x", 41), "said 1 0 0",
		"change 2 7 15 1 2", "said 6 0 0",
		"change 2 1 15 1 2", "said 6 0 0",
		"back 3 1", "said 0 1 -1350",
		"back 3 1", "said 0 1 -1350",
		"back 4 1", "said 6 0 0",
		"day 5 9", "said 0 0 0",
		"day 5 9", "said 0 0 0",
		"day 6 9", "said 1 0 0",
		"seats 10 14 0 2", "2",
	)
	if len(d.Platform.Office.Orders) != 1 || len(d.Platform.Office.Told) != 6 || d.Platform.Office.Today != 9 {
		t.Errorf("behind it all there is %s", tellBooth(d))
	}
}

// Of a sale that was lost the request is new again.
func TestRequestsThatComeAgainBehindACrash(t *testing.T) {
	checkTalk(t,
		"sell 1 2 0 14 1 4 A", "said 0 1 1350", "sync", "said 0 0 0", "sell 2 2 0 14 1 2 B", "said 0 2 500", "crash 0", "said 0 0 0",
		"sell 1 2 0 15 1 2 A", "said 0 1 1350", "ticket 2", "none", "sell 2 2 0 15 2 3 C", "said 0 2 700", "ticket 2", "head 2 2 700 15 15;name C;leg 10 15 2 3 1 1;",
		"sell 2 2 0 14 1 2 B", "said 0 2 700",
	)
}

func TestCrashesAtTheDesk(t *testing.T) {
	first, second := len(recordOf("0 1 0 2 0 2 10 14 1 3 20 14 3 4 A")), len(recordOf("0 2 0 2 0 1 10 14 1 2 B"))
	sold := []string{"head 1 2 1350 14 14;name A;leg 10 14 1 3 1 1;leg 20 14 3 4 0 0;", "head 2 2 500 14 14;name B;leg 10 14 1 2 1 2;"}
	for keep := range first + second + 3 {
		told := []string{"none", "none", "2"}
		if keep >= first {
			told[0], told[2] = sold[0], "1"
		}
		if keep >= first+second {
			told[1], told[2] = sold[1], "0"
		}
		d := checkTalk(t,
			"sell 1 2 0 14 1 4 A", "said 0 1 1350", "sell 2 2 0 14 1 2 B", "said 0 2 500", "crash "+strconv.Itoa(keep), "said 0 0 0",
			"ticket 1", told[0], "ticket 2", told[1], "seats 10 14 0 2", told[2], "crash 0", "said 0 0 0", "ticket 1", told[0], "ticket 2", told[1],
		)
		if d.Platform.Synced != len(d.Platform.Log) || d.Platform.Synced > keep {
			t.Errorf("of %d bytes there are left %s", keep, tell(d.Platform))
		}
	}
	for _, keep := range []string{"1000", "999999999"} {
		checkTalk(t, "sell 1 2 0 14 1 4 A", "said 0 1 1350", "sell 2 2 0 14 1 2 B", "said 0 2 500", "crash "+keep, "said 0 0 0", "ticket 1", sold[0], "ticket 2", sold[1])
		checkTalk(t, "crash "+keep, "said 0 0 0", "sync", "said 0 0 0", "crash "+keep, "said 0 0 0")
	}
	checkTalk(t, "crash 0", "said 0 0 0", "sell 1 2 0 14 1 4 A", "said 0 1 1350", "crash 0", "said 0 0 0", "ticket 1", "none", "sell 1 2 0 14 1 4 A", "said 0 1 1350", "sync", "said 0 0 0", "crash 0", "said 0 0 0", "ticket 1", sold[0])
	checkTalk(t, "sell 1 2 0 14 1 4 A", "said 0 1 1350", "sync", "said 0 0 0", "back 2 1", "said 0 1 -1350", "crash 5", "said 0 0 0", "ticket 1", sold[0], "back 2 1", "said 0 1 -1350", "ticket 1", "none")
	checkTalk(t, "day 1 9", "said 0 0 0", "crash 0", "said 0 0 0", "day 2 9", "said 0 0 0", "sync", "said 0 0 0", "crash 0", "said 0 0 0", "day 3 9", "said 1 0 0")
}

// What a device has seen and what is off is not the platform's, so no crash
// takes it.
func TestDevicesOutliveCrashes(t *testing.T) {
	d := checkTalk(t,
		"sell 1 2 0 14 1 4 A", "said 0 1 1350", "check 1 5 10 14", "0", "off 2", "done", "crash 0", "said 0 0 0", "check 1 5 10 14", "none",
		"sell 1 2 0 14 1 4 B", "said 0 1 1350", "check 1 5 10 14", "5", "sell 2 2 0 14 3 4 C", "said 0 2 250", "check 2 5 20 14", "4", "off 2", "none",
	)
	if len(d.Hand.Seen) != 3 || d.Centre.Version != 1 {
		t.Errorf("behind it all there is %s", tellBooth(d))
	}
}

func TestTicketsAtTheDesk(t *testing.T) {
	checkTalk(t,
		"ticket 0", "none", "ticket 1", "none", "ticket 999999999", "none",
		"sell 1 1 0 14 1 4 A B", "said 0 1 2160",
		"sell 2 2 0 14 2 3  x ", "said 0 2 700",
		"ticket 1", "head 1 1 2160 14 14;name A B;leg 10 14 1 3 1 1;leg 20 14 3 4 0 0;",
		"ticket 2", "head 2 2 700 14 14;name  x ;leg 10 14 2 3 1 2;",
		"ticket 3", "none",
		"change 3 1 15 3 4", "said 0 3 -1760",
		"ticket 1", "none",
		"ticket 3", "head 3 1 400 15 15;name A B;leg 20 15 3 4 0 0;",
		"back 4 2", "said 0 2 -700",
		"ticket 2", "none",
		"ticket 0", "none", "ticket 4", "none",
		"ticket 3", "head 3 1 400 15 15;name A B;leg 20 15 3 4 0 0;",
	)
}

func TestChecksOfOrdersThatHaveNoTicket(t *testing.T) {
	d := checkTalk(t,
		"check 0 5 10 14", "none", "check 1 5 10 14", "none", "check 999999999 5 10 14", "none",
		"sell 1 2 0 14 1 4 A", "said 0 1 1350", "change 2 1 14 1 3", "said 0 2 -250", "check 1 5 10 14", "none", "check 2 5 10 14", "0",
		"back 3 2", "said 0 2 -1100", "check 2 5 10 14", "none", "check 3 5 10 14", "none", "check 1 0 0 0", "none", "off 2", "done", "check 2 5 10 14", "none",
	)
	if len(d.Hand.Seen) != 1 {
		t.Errorf("the device has seen %v", d.Hand.Seen)
	}
}

func TestDrawsOfACheck(t *testing.T) {
	d := boothWithOrder(t)
	for _, draw := range []string{"0", "10007", "10008", "20014", "65536", "240169", "999999999"} {
		checkLeavesAll(t, d, "check 1 "+draw+" 10 14", "none")
		checkLeavesAll(t, d, "check 1 "+draw+" 0 14", "none")
	}
	for _, draw := range []string{"1", "2", "5", "7", "100", "10005", "10006"} {
		next := checkNext(t, d, "check 1 "+draw+" 10 14", "0")
		checkNext(t, next, "check 1 5 10 14", "5")
	}
	signed, refused := 0, 0
	for draw := range 300 {
		switch _, say := checkDeskLine(t, d, fmt.Sprintf("check 1 %d 10 14", draw)); say {
		case "0":
			signed++
		case "none":
			refused++
		}
	}
	if signed+refused != 300 || refused < 1 || signed < 250 {
		t.Errorf("%d draws will do, %d will not", signed, refused)
	}
}

func TestChecksOnTrainsAndDays(t *testing.T) {
	d := checkTalk(t,
		"sell 1 2 0 14 1 4 A", "said 0 1 1350",
		"check 1 5 10 13", "2", "check 1 5 10 15", "2", "check 1 5 10 0", "2", "check 1 5 10 99999", "2", "check 1 5 30 13", "2",
		"check 1 5 30 14", "3", "check 1 5 1 14", "3", "check 1 5 9999 14", "3",
		"check 1 5 20 14", "0", "check 1 5 20 14", "5", "check 1 5 10 14", "0", "check 1 5 10 14", "5", "check 1 6 10 14", "5",
		"off 7", "done", "check 1 5 10 14", "5", "off 1", "done", "check 1 5 10 14", "4", "check 1 5 20 14", "4", "check 1 5 30 14", "3", "check 1 5 10 13", "2",
	)
	if len(d.Hand.Seen) != 18 {
		t.Errorf("the device has seen %v", d.Hand.Seen)
	}
	for _, line := range []string{"check 1 5 0 14", "check 1 5 10000 14", "check 1 5 999999999 14", "check 1 5 10 100000", "check 1 5 10 999999999", "check 1 5 0 100000"} {
		checkLeavesAll(t, d, line, "1")
	}
}

func TestSeatsAtTheDesk(t *testing.T) {
	checkTalk(t,
		"seats 10 14 0 2", "2", "seats 10 14 0 1", "2", "seats 10 14 1 2", "2",
		"seats 10 14 1 1", "-1", "seats 10 14 2 1", "-1", "seats 10 14 2 0", "-1", "seats 10 14 0 0", "-1", "seats 10 14 0 3", "-1", "seats 10 14 2 3", "-1", "seats 10 14 3 4", "-1", "seats 10 14 0 999999999", "-1",
		"seats 20 14 0 1", "0", "seats 20 14 1 0", "-1", "seats 20 14 0 2", "-1", "seats 20 14 1 2", "-1",
		"seats 9 14 0 1", "-1", "seats 0 14 0 1", "-1", "seats 11 14 0 1", "-1", "seats 999999999 14 0 1", "-1", "seats 30 14 0 1", "-1",
		"seats 10 0 0 2", "2", "seats 10 4 0 2", "2", "seats 10 99999 0 2", "2", "seats 10 100000 0 2", "-1", "seats 10 999999999 0 2", "-1",
		"sell 1 2 0 14 1 2 A", "said 0 1 500", "seats 10 14 0 2", "1", "seats 10 14 0 1", "1", "seats 10 14 1 2", "2", "seats 10 13 0 2", "2",
		"sell 2 2 0 14 1 3 A", "said 0 2 1100", "seats 10 14 0 2", "0", "seats 10 14 0 1", "0", "seats 10 14 1 2", "1", "back 3 1", "said 0 1 -500", "seats 10 14 0 2", "1",
	)
}

func TestFaresAtTheDesk(t *testing.T) {
	checkTalk(t,
		"fare 1 2 2 0", "500 0", "fare 2 1 2 0", "500 0", "fare 1 3 2 0", "1100 0", "fare 4 1 2 0", "1350 0", "fare 2 4 2 0", "950 0", "fare 1 4 2 1", "1020 0", "fare 1 4 2 2", "680 0", "fare 1 4 2 3", "680 0",
		"fare 1 4 1 0", "2160 0", "fare 1 4 1 1", "1620 0", "fare 1 4 1 2", "1080 0", "fare 1 4 1 3", "1080 0", "fare 3 4 2 1", "190 0",
		"fare 1 1 2 0", "0 0", "fare 9 9 2 0", "0 0", "fare 9999 9999 1 3", "0 0",
		"fare 1 9 2 0", "0 1", "fare 9 1 2 0", "0 1", "fare 0 1 2 0", "0 1", "fare 0 0 2 0", "0 1", "fare 1 10000 2 0", "0 1", "fare 10000 10000 2 0", "0 1", "fare 1 999999999 2 0", "0 1",
		"fare 1 4 0 0", "0 2", "fare 1 4 3 0", "0 2", "fare 1 4 2 4", "0 2", "fare 1 9 3 0", "0 2", "fare 0 0 0 9", "0 2", "fare 1 4 2 999999999", "0 2",
	)
}

func TestNumbersAreTakenOffAtTheDesk(t *testing.T) {
	d := checkTalk(t,
		"off 5", "done", "off 5", "none", "off 0", "none", "off 1", "done", "off 999999999", "done", "off 1000000000", "what", "off 999999999", "none", "off 3", "done", "off 1", "none", "off -1", "what", "off", "what", "off 3 4", "what",
	)
	if want := []int{1, 3, 5, 999999999}; !slices.Equal(d.Hand.Off, want) || !slices.Equal(d.Centre.Off, want) || d.Hand.Version != 4 || d.Centre.Version != 4 {
		t.Errorf("behind it all there is %s", tellBooth(d))
	}
}

func TestTheLastNumberThatIsTakenOff(t *testing.T) {
	d := boothWithOrder(t)
	for i := range 200 {
		d = checkNext(t, d, "off "+strconv.Itoa(1000-3*i), "done")
		checkKnows(t, d)
	}
	if d.Centre.Version != 200 || len(d.Hand.Off) != 200 {
		t.Fatalf("behind 200 numbers there is %s", tellBooth(d))
	}
	for _, id := range []string{"1", "2", "1000", "403", "402", "2000", "0", "999999999"} {
		checkLeavesAll(t, d, "off "+id, "none")
	}
	checkNext(t, d, "check 1 5 10 14", "0")
}

func TestMoreOrdersThanThereMayBe(t *testing.T) {
	lines := []string{}
	for i := range 102 {
		lines = append(lines, fmt.Sprintf("sell %d 2 0 14 3 4 A", i+1))
	}
	lines = append(lines, "change 200 100 15 3 4", "back 201 100", "change 202 99 15 3 4", "ticket 99", "ticket 100", "ticket 101")
	want := ""
	for i := range 100 {
		want += fmt.Sprintf("said 0 %d 250\n", i+1)
	}
	want += "said 5 0 0\nsaid 5 0 0\nsaid 5 0 0\nsaid 0 100 -250\nsaid 5 0 0\nhead 99 2 250 14 14;name A;leg 20 14 3 4 0 0;\nnone\nnone\n"
	checkScript(t, scriptOf(lines), want)
	d := begun(t, 5)
	for _, line := range lines {
		d, _ = checkDeskLine(t, d, line)
	}
	checkKnows(t, d)
	checkScript(t, scriptOf(lines[:50]), strings.Join(strings.SplitAfter(want, "\n")[:50], ""))
}

func TestMoreRequestsThanAreTold(t *testing.T) {
	d := boothWithOrder(t)
	for i := 2; i <= 300; i++ {
		d, _ = impl.DeskLine(d, fmt.Sprintf("back %d 9", i))
	}
	checkKnows(t, d)
	for _, line := range []string{"sell 301 2 0 14 1 2 A", "back 301 1", "day 301 9", "change 301 1 15 1 2"} {
		next := checkNext(t, d, line, "said 1 0 0")
		checkKnows(t, next)
		if !sameOffice(next.Platform.Office, d.Platform.Office) || len(next.Platform.Log) <= len(d.Platform.Log) {
			t.Errorf("behind %q there is %s", line, tellBooth(next))
		}
	}
	checkLeavesAll(t, d, "back 1 1", "said 0 1 1350")
	checkLeavesAll(t, d, "back 300 1", "said 6 0 0")
}

func TestMoreControlsThanADeviceKeeps(t *testing.T) {
	d := boothWithOrder(t)
	for i := range 300 {
		d, _ = impl.DeskLine(d, fmt.Sprintf("check 1 5 %d 14", 30+i))
	}
	checkKnows(t, d)
	if len(d.Hand.Seen) != 300 {
		t.Fatalf("the device has seen %d", len(d.Hand.Seen))
	}
	checkLeavesAll(t, d, "check 1 5 10 14", "1")
	checkLeavesAll(t, d, "check 1 5 30 14", "1")
	checkLeavesAll(t, d, "check 2 5 10 14", "none")
	checkNext(t, d, "off 1", "done")
}

func TestALogThatIsFullAtTheDesk(t *testing.T) {
	line := "sell 3 2 0 14 1 2 A"
	size := len(recordOf("0 3 0 2 0 1 10 14 1 2 A"))
	for _, room := range []int{0, 1, size - 1, size, size + 1} {
		d := toldBooth(5)
		d.Platform = filled(t, mostLog-room)
		if room < size {
			checkLeavesAll(t, d, line, "said 5 0 0")
		} else {
			checkNext(t, d, line, "said 0 2 500")
		}
		checkNext(t, d, "sync", "said 0 0 0")
		checkNext(t, d, "seats 10 14 0 2", "1")
	}
}

func TestDeskLinesOnAnyDay(t *testing.T) {
	for _, today := range []int{0, 1, 5, 89999, 90000} {
		d := begun(t, today)
		day := strconv.Itoa(today)
		checkNext(t, d, "sell 1 2 0 "+day+" 1 4 A", "said 0 1 1350")
		checkNext(t, d, "day 1 "+day, "said 1 0 0")
		if today > 0 {
			checkNext(t, d, fmt.Sprintf("sell 1 2 0 %d 1 4 A", today-1), "said 2 0 0")
		}
		next := map[bool]string{true: "said 0 1 1350", false: "said 2 0 0"}[today < 90000]
		checkNext(t, d, fmt.Sprintf("sell 1 2 0 %d 1 4 A", today+1), next)
		d = checkNext(t, d, "sell 1 2 0 "+day+" 1 4 A", "said 0 1 1350")
		d = checkNext(t, d, "check 1 5 10 "+day, "0")
		d = checkNext(t, d, "crash 0", "said 0 0 0")
		checkKnows(t, checkNext(t, d, "ticket 1", "none"))
		if d.Platform.Office.Today != today {
			t.Errorf("it is day %d", d.Platform.Office.Today)
		}
	}
}

// A line of a script has no newline, but DeskLine may be handed one.
func TestLinesThatHoldANewline(t *testing.T) {
	d := boothWithOrder(t)
	checkLeavesAll(t, d, "\n", "what")
	checkLeavesAll(t, d, "\n\n", "what")
	checkLeavesAll(t, d, "sync\nsync", "what")
	checkLeavesAll(t, d, "sync\n\n", "what")
	for kind, line := range rightLinesOfEach() {
		checkLeavesAll(t, d, "\n"+line, "what")
		want := "what"
		if kind == "sell" {
			want = "said 1 0 0"
		}
		checkLeavesAll(t, d, line+"\n", want)
		checkLeavesAll(t, d, line+"\n"+line, want)
		for i := range line {
			if i < len("sell 2 2 0 14 1 2 ") && (kind != "sell" || i > 0) {
				checkLeavesAll(t, d, line[:i]+"\n"+line[i:], "what")
			}
		}
	}
}

func TestTheZeroBooth(t *testing.T) {
	var zero impl.Booth
	for line, want := range map[string]string{
		"sell 1 2 0 14 1 2 A": "said 2 0 0", "sell 1 3 0 14 1 2 A": "said 1 0 0", "change 1 1 14 1 2": "said 6 0 0", "back 1 1": "said 6 0 0", "day 1 5": "said 0 0 0", "day 1 0": "said 1 0 0", "sync": "said 0 0 0", "crash 7": "said 0 0 0",
		"ticket 1": "none", "check 1 5 10 14": "none", "seats 10 14 0 2": "-1", "fare 1 2 2 0": "0 1", "fare 1 1 2 0": "0 0", "fare 1 2 3 0": "0 2", "off 1": "done", "off 0": "none", "": "what", "what": "what",
	} {
		checkNext(t, zero, line, want)
	}
	next := checkNext(t, zero, "off 1", "done")
	if !sameCentre(next.Centre, impl.Centre{Version: 1, Off: []int{1}}) || !sameHand(next.Hand, impl.Hand{}) {
		t.Errorf("a device that is none knows %s", tellHand(next.Hand))
	}
}

// wrongBooths have one part each that is not right.
func wrongBooths(t *testing.T) map[string]impl.Booth {
	t.Helper()
	list := map[string]impl.Booth{}
	add := func(name string, put func(d *impl.Booth)) {
		d := copiedBooth(boothWithOrder(t))
		put(&d)
		list[name] = d
	}
	add("no platform", func(d *impl.Booth) { d.Platform = impl.Platform{} })
	add("no start", func(d *impl.Booth) { d.Platform.Start = impl.Office{} })
	add("no office", func(d *impl.Booth) { d.Platform.Office = impl.Office{} })
	add("no log", func(d *impl.Booth) { d.Platform.Log = "" })
	add("a torn log", func(d *impl.Booth) { d.Platform.Log += "\x00\x00" })
	add("a log of what is no want", func(d *impl.Booth) { d.Platform.Log = recordOf("x") + d.Platform.Log })
	for _, synced := range []int{math.MinInt, -1, 1000, math.MaxInt} {
		add(fmt.Sprint("synced ", synced), func(d *impl.Booth) { d.Platform.Synced = synced })
	}
	for _, today := range []int{math.MinInt, -1, 90001, math.MaxInt} {
		add(fmt.Sprint("today ", today), func(d *impl.Booth) { d.Platform.Office.Today = today })
	}
	add("other lines", func(d *impl.Booth) { d.Platform.Office.Lines[0].Stops[2].Arr = 3000 })
	add("lines the other way round", func(d *impl.Booth) { slices.Reverse(d.Platform.Office.Lines) })
	add("another tariff", func(d *impl.Booth) { d.Platform.Office.Tariff = tariffBy(1, 2, 1000000) })
	add("a tariff that is not right", func(d *impl.Booth) { d.Platform.Office.Tariff[0].Cost = -1 })
	add("holds that meet", func(d *impl.Booth) {
		d.Platform.Office.Holds = append(d.Platform.Office.Holds, d.Platform.Office.Holds[0])
	})
	add("an order with no rides", func(d *impl.Booth) { d.Platform.Office.Orders[0].Rides = nil })
	add("an order of another number", func(d *impl.Booth) { d.Platform.Office.Orders[0].Id = 7 })
	add("an order of no name", func(d *impl.Booth) { d.Platform.Office.Orders[0].Name = "A\nB" })
	add("no device", func(d *impl.Booth) { d.Hand = impl.Hand{} })
	add("a device of another issuer", func(d *impl.Booth) { d.Hand.Issuer = 81 })
	add("a device with another key", func(d *impl.Booth) { d.Hand.Open++ })
	add("a device with other parameters", func(d *impl.Booth) { d.Hand.Params = impl.Params{P: 1213, Q: 101, G: 457} })
	add("a device with no parameters", func(d *impl.Booth) { d.Hand.Params = impl.Params{} })
	add("a device that knows more", func(d *impl.Booth) { d.Hand.Version, d.Hand.Off = 9, []int{1, 4} })
	add("a device of the greatest version", func(d *impl.Booth) { d.Hand.Version = math.MaxInt })
	add("a centre that knows more", func(d *impl.Booth) { d.Centre = busyCentre() })
	add("a centre that knows of the order", func(d *impl.Booth) { d.Centre = impl.Centre{Version: 1, Off: []int{1}} })
	add("a centre of the greatest version", func(d *impl.Booth) { d.Centre.Version = math.MaxInt })
	for i, h := range wrongHands() {
		add(fmt.Sprint("device ", i), func(d *impl.Booth) { d.Hand = h })
	}
	for i, c := range wrongCentres() {
		add(fmt.Sprint("centre ", i), func(d *impl.Booth) { d.Centre = c })
	}
	for name, put := range wrongs() {
		add(name, func(d *impl.Booth) {
			d.Platform.Office = busyOffice(t)
			put(&d.Platform.Office)
		})
		add("a start with "+name, func(d *impl.Booth) {
			d.Platform.Start = busyOffice(t)
			put(&d.Platform.Start)
		})
	}
	return list
}

func TestBoothsThatAreNotRight(t *testing.T) {
	more := []string{"off 5", "off 0", "crash 999999999", "check 1 5 20 14", "check 1 0 10 14", "ticket 2", "ticket 7", "seats 20 14 0 1", "fare 1 2 1 3", "sell 2 2 0 5 1 4  A ", "sell 2 2 0 14 4 1 A", "what", ""}
	for name, d := range wrongBooths(t) {
		t.Run(name, func(t *testing.T) {
			for _, line := range slices.Concat(slices.Sorted(maps.Values(rightLinesOfEach())), more) {
				next, _ := checkDeskLine(t, d, line)
				checkDeskLine(t, next, "off 1")
				checkDeskLine(t, next, "check 1 5 10 14")
			}
		})
	}
}

// The list goes to the device behind every line that asks for it, so one that
// was behind is so no longer.
func TestDevicesThatAreBehindTheirCentre(t *testing.T) {
	d := boothWithOrder(t)
	d.Centre = impl.Centre{Version: 3, Off: []int{1, 4, 6}, Controls: manyControls(3)}
	next := checkNext(t, d, "off 4", "none")
	if next.Hand.Version != 3 || !slices.Equal(next.Hand.Off, []int{1, 4, 6}) || !sameCentre(next.Centre, d.Centre) {
		t.Errorf("the device knows %s", tellHand(next.Hand))
	}
	checkNext(t, next, "check 1 5 10 14", "4")
	next = checkNext(t, d, "off 5", "done")
	if next.Hand.Version != 4 || !slices.Equal(next.Hand.Off, []int{1, 4, 5, 6}) || len(next.Centre.Controls) != 3 {
		t.Errorf("the device knows %s", tellHand(next.Hand))
	}
	d.Hand.Version, d.Hand.Off = 4, []int{2}
	next = checkNext(t, d, "off 5", "done")
	if next.Hand.Version != 4 || !slices.Equal(next.Hand.Off, []int{2}) || next.Centre.Version != 4 {
		t.Errorf("a device takes a list that is not newer: %s", tellHand(next.Hand))
	}
}

// What the office of a booth has counts, be it other than what the chapter
// tells.
func TestBoothsOfOtherOffices(t *testing.T) {
	r := rand.New(rand.NewSource(50))
	met := map[string]int{}
	for range 200 {
		stations := 2 + r.Intn(4)
		d := toldBooth(5)
		d.Platform = anyPlatform(t, r, stations)
		for range 25 {
			line := anyLineOf(r, d, stations)
			next, say := checkDeskLine(t, d, line)
			met[exchange(line, say)]++
			d = next
		}
	}
	for _, said := range []string{
		"sell: said 0", "sell: said 1", "sell: said 2", "sell: said 3", "sell: said 4", "change: said 0", "change: said 6", "change: said 7", "back: said 0", "back: said 6", "back: said 7",
		"day: said 0", "day: said 1", "ticket: head", "ticket: none", "check: 0", "check: 2", "check: 3", "check: 5", "check: none", "seats: -1", "seats: 1", "fare: 0", "off: done",
	} {
		if met[said] < 3 {
			t.Errorf("%q was told only %d times", said, met[said])
		}
	}
}

// exchange tells of which kind a line and its answer are.
func exchange(line, say string) string {
	kind, _, _ := strings.Cut(line, " ")
	words := strings.Split(say, " ")
	if words[0] == "said" {
		return kind + ": said " + words[1]
	}
	return kind + ": " + words[0]
}

// anyLineOf has numbers that are near to those of the booth.
func anyLineOf(r *rand.Rand, d impl.Booth, stations int) string {
	o := d.Platform.Office
	order, day, train := r.Intn(len(o.Orders)+2), max(o.Today, 0)+r.Intn(4)-min(max(o.Today, 0), 1), 10*(1+r.Intn(3))
	if len(o.Lines) > 0 && r.Intn(4) > 0 {
		train = o.Lines[r.Intn(len(o.Lines))].Id
	}
	if len(o.Orders) > 0 && r.Intn(2) == 0 {
		if x := o.Orders[r.Intn(len(o.Orders))]; len(x.Rides) > 0 {
			order, train, day = x.Id, x.Rides[0].Train, x.Rides[0].Day
		}
	}
	request, from, to := 1+r.Intn(400), 1+r.Intn(stations), 1+r.Intn(stations)
	if r.Intn(2) == 0 {
		from, to = 1+r.Intn(2), 2+r.Intn(3)
	}
	names := []string{"A", "", " ", "A B", " A ", "1 2", strings.Repeat("x", 40), strings.Repeat("x", 41), "A;", "\x7f"}
	switch r.Intn(24) {
	case 0:
		return "sync"
	case 1:
		return fmt.Sprintf("crash %d", []int{0, 50, 100, 1000, 100000}[r.Intn(5)])
	case 2, 3:
		return fmt.Sprintf("ticket %d", order)
	case 4, 5, 6:
		return fmt.Sprintf("check %d %d %d %d", order, r.Intn(30), train, day+r.Intn(8)/7)
	case 7:
		return fmt.Sprintf("seats %d %d %d %d", train, day, r.Intn(3), r.Intn(4))
	case 8:
		return fmt.Sprintf("fare %d %d %d %d", from, to, r.Intn(4), r.Intn(5))
	case 9:
		return fmt.Sprintf("off %d", order)
	case 10:
		return fmt.Sprintf("day %d %d", request, o.Today+r.Intn(4))
	case 11, 12:
		return fmt.Sprintf("back %d %d", request, order)
	case 13, 14:
		return fmt.Sprintf("change %d %d %d %d %d", request, order, day, from, to)
	}
	return fmt.Sprintf("sell %d %d %d %d %d %d %s", request, 1+r.Intn(2), r.Intn(4)+r.Intn(20)/19, day, from, to, names[r.Intn(len(names))])
}

func spoiledLine(r *rand.Rand, line string) string {
	words := strings.Split(line, " ")
	i := r.Intn(len(words))
	switch r.Intn(6) {
	case 0:
		return strings.Join(slices.Delete(words, i, i+1), " ")
	case 1:
		return strings.Join(slices.Insert(words, i, []string{"", "1", "x"}[r.Intn(3)]), " ")
	case 2:
		words[i] = []string{"0" + words[i], "+" + words[i], "-" + words[i], "", "1000000000", strings.ToUpper(words[i])}[r.Intn(6)]
		return strings.Join(words, " ")
	case 3:
		return line + " "
	case 4:
		return line + " 1"
	}
	at := r.Intn(len(line) + 1)
	return line[:at] + string([]byte{" 0x\t;"[r.Intn(5)]}) + line[at:]
}

// anyTalk is a session that has come about line by line, with lines that were
// spoiled and such as come again.
func anyTalk(t *testing.T, r *rand.Rand, count int) (lines, answers []string) {
	t.Helper()
	d := begun(t, 5)
	for range count {
		line := anyLineOf(r, d, 5)
		switch r.Intn(8) {
		case 0:
			line = spoiledLine(r, line)
		case 1:
			if len(lines) > 0 {
				line = lines[r.Intn(len(lines))]
			}
		}
		var say string
		d, say = checkDeskLine(t, d, line)
		checkKnows(t, d)
		lines, answers = append(lines, line), append(answers, say)
	}
	if !rightPlatform(d.Platform) || !rightHand(d.Hand) || !rightCentre(d.Centre) {
		t.Fatalf("the booth is not right: %s", tellBooth(d))
	}
	return lines, answers
}

func TestAnyTalk(t *testing.T) {
	r := rand.New(rand.NewSource(51))
	met := map[string]int{}
	for _, count := range slices.Concat(slices.Repeat([]int{40}, 100), slices.Repeat([]int{120}, 5), []int{200, 200}) {
		lines, answers := anyTalk(t, r, count)
		whole := scriptOf(lines)
		checkScript(t, whole, scriptOf(answers))
		for i := range lines {
			met[exchange(lines[i], answers[i])]++
			if count == 40 || r.Intn(10) == 0 {
				checkScript(t, scriptOf(lines[:i]), scriptOf(answers[:i]))
			}
		}
		checkScript(t, strings.TrimSuffix(whole, "\n"), "long\n")
	}
	for _, said := range []string{
		"sell: said 0", "sell: said 1", "sell: said 2", "sell: said 4", "sell: what", "change: said 0", "change: said 2", "change: said 6", "back: said 0", "back: said 6", "back: what",
		"day: said 0", "day: said 1", "sync: said 0", "sync: what", "crash: said 0", "ticket: head", "ticket: none", "check: 0", "check: 2", "check: 3", "check: 4", "check: 5", "check: none",
		"seats: -1", "seats: 0", "seats: 1", "seats: 2", "fare: 0", "off: done", "off: none",
	} {
		if met[said] < 5 {
			t.Errorf("%q was told only %d times", said, met[said])
		}
	}
}

// Any two texts of which one begins with the other, cut anywhere.
func TestWhatIsToldOfABeginning(t *testing.T) {
	r := rand.New(rand.NewSource(52))
	lines, _ := anyTalk(t, r, 30)
	text := scriptOf(lines)
	whole := impl.Desk(text)
	for i := range len(text) + 1 {
		if i > 0 && text[i-1] != '\n' {
			checkScript(t, text[:i], "long\n")
			continue
		}
		told := impl.Desk(text[:i])
		if !strings.HasPrefix(whole, told) || strings.Count(told, "\n") != strings.Count(text[:i], "\n") {
			t.Fatalf("of %q is told %q, of its beginning %q", text, whole, told)
		}
	}
}

func TestBoothsThatWereToldStayAsTheyWere(t *testing.T) {
	r := rand.New(rand.NewSource(53))
	list := []impl.Booth{begun(t, 5)}
	kept := []impl.Booth{copiedBooth(list[0])}
	for range 400 {
		from := list[r.Intn(len(list))]
		next, _ := impl.DeskLine(from, anyLineOf(r, from, 5))
		list, kept = append(list, next), append(kept, copiedBooth(next))
	}
	for i := range list {
		if !sameBooth(list[i], kept[i]) {
			t.Fatalf("booth %d was %s and is %s", i, tellBooth(kept[i]), tellBooth(list[i]))
		}
	}
}

// No list of an answer is that of another, be it that of the argument was.
func TestListsOfABoothAreApart(t *testing.T) {
	d := boothWithOrder(t)
	off, controls := manyOff(20), manySeen(1, 10)
	d.Hand.Off, d.Centre.Off = off, off
	d.Hand.Seen, d.Centre.Controls = controls, controls
	d.Platform.Office = sharingOffice()
	d.Platform.Start = d.Platform.Office
	for _, line := range slices.Concat(slices.Collect(maps.Values(rightLinesOfEach())), []string{"", "what", "off 0", "check 1 0 10 14"}) {
		next, _ := impl.DeskLine(d, line)
		checkNew(t, boothSpans(next), boothSpans(d))
		checkApart(t, boothLists(next))
	}
}

// Calls at the same time have nothing to do with each other.
func TestDesksAtTheSameTime(t *testing.T) {
	script := "sell 1 2 0 14 1 4 A B\nticket 1\nsync\ncheck 1 5 10 14\noff 1\ncheck 1 5 10 14\nwhat\n"
	want := "said 0 1 1350\nhead 1 2 1350 14 14;name A B;leg 10 14 1 3 1 1;leg 20 14 3 4 0 0;\nsaid 0 0 0\n0\ndone\n4\nwhat\n"
	d := roomyBooth(boothWithOrder(t))
	ticket := "head 1 2 1350 14 14;name A B;leg 10 14 1 3 1 1;leg 20 14 3 4 0 0;"
	var group sync.WaitGroup
	wrong := make([]int, 8)
	for i := range wrong {
		group.Go(func() {
			for j := range 100 {
				if impl.Desk(script) != want {
					wrong[i]++
				}
				if _, say := impl.DeskLine(d, "ticket 1"); say != ticket {
					wrong[i]++
				}
				if next, say := impl.DeskLine(d, fmt.Sprintf("off %d", 1+j)); say != "done" || next.Hand.Off[0] != 1+j {
					wrong[i]++
				}
				if start, ok := impl.DeskStart(j); !ok || start.Platform.Office.Today != j {
					wrong[i]++
				}
			}
		})
	}
	group.Wait()
	if slices.Max(wrong) > 0 {
		t.Errorf("wrong answers: %v", wrong)
	}
}

// The greatest ticket an office can have, and names made of blanks, are told
// word by word as they stand.
func TestTicketsOfManyWords(t *testing.T) {
	for _, x := range []impl.Ticket{mostTicket(), leastTicket(), someTicket(), named(strings.Repeat(" ", 40)), named(strings.Repeat("a ", 20)), named(" ;;  ; ")} {
		x.Id = 1
		d := toldBooth(5)
		d.Platform.Office = printed(x)
		want := strings.ReplaceAll(wantPlain(x), "\n", ";")
		for range 20 {
			checkNext(t, d, "ticket 1", want)
		}
		checkNext(t, d, fmt.Sprintf("check 1 5 %d %d", x.Legs[0].Train, x.Legs[0].Day), "0")
	}
}

func TestDesksAnswerAtAnyArguments(t *testing.T) {
	for _, a := range edgeNumbers {
		for _, b := range edgeNumbers {
			o := oddOffice(t, a, b)
			d := impl.Booth{
				Platform: impl.Platform{Start: o, Office: o, Log: recordOf("x"), Synced: b},
				Hand:     impl.Hand{Device: a, Params: impl.Params{P: a, Q: b, G: a}, Open: b, Issuer: a, Version: b, Off: []int{a, b}, Seen: []impl.Control{{Device: a, No: b}}},
				Centre:   impl.Centre{Version: a, Off: []int{b}, Controls: []impl.Control{{Device: b, No: a}}},
			}
			for _, line := range rightLinesOfEach() {
				checkDeskLine(t, d, line)
			}
			checkDeskLine(t, d, fmt.Sprintf("seats %d %d %d %d", a, b, a, b))
			checkDeskLine(t, d, fmt.Sprintf("fare %d %d %d %d", a, b, b, a))
			checkDeskLine(t, d, fmt.Sprintf("sell %d 2 0 %d %d %d A", a, b, a, b))
		}
	}
	d := boothWithOrder(t)
	for _, line := range []string{strings.Repeat(" ", 1<<20), strings.Repeat("x", 1<<20), strings.Repeat("sync ", 1<<18), "sync" + strings.Repeat(" ", 1<<20), "ticket " + strings.Repeat("9", 1<<20), strings.Repeat("\n", 1<<20)} {
		checkLeavesAll(t, d, line, "what")
	}
	checkLeavesAll(t, d, "sell 2 2 0 14 1 2 "+strings.Repeat(" ", 1<<20), "said 1 0 0")
	for _, text := range []string{strings.Repeat("\n", 1<<20), strings.Repeat("sync\n", 1<<18), strings.Repeat("\x00", 1<<20)} {
		checkScript(t, text, "long\n")
	}
}

func TestDesksAnswerAtAnyBytes(t *testing.T) {
	d := boothWithOrder(t)
	r := rand.New(rand.NewSource(54))
	for range 2000 {
		line := mixedText(r.Int63(), r.Intn(40), 256)
		checkDeskLine(t, d, line)
		lines := strings.Count(line, "\n") + 1
		if got := impl.Desk(line + "\n"); strings.Count(got, "\n") != lines {
			t.Fatalf("Desk(%q) = %q", line+"\n", got)
		}
	}
	for kind, line := range rightLinesOfEach() {
		for i := range len(line) {
			for _, c := range []byte("\x00\t\n\r 09-+;aA~\x7f\xff") {
				next, _ := checkDeskLine(t, d, line[:i]+string([]byte{c})+line[i+1:])
				if kind != "sell" || i > 0 {
					checkKnows(t, next)
				}
			}
		}
	}
}
