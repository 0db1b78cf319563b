package tests

import (
	"math"
	"slices"
	"strings"
	"testing"

	"loop.example/g00170/impl"
)

// The limits that chapter 5 tells without a name.
const (
	mostSlotNext = 1000000
	mostAnswer   = 3000
	mostOrder    = 100
)

// sameSession takes the empty list and the nil list for the same, as the document does.
func sameSession(a, b impl.Session) bool {
	return a.Next == b.Next && slices.Equal(a.Slots, b.Slots)
}

func copyOfSession(s impl.Session) impl.Session {
	s.Slots = slices.Clone(s.Slots)
	return s
}

func waiting(id int) impl.Slot {
	return impl.Slot{Id: id}
}

func doneWith(id int, answer string) impl.Slot {
	return impl.Slot{Id: id, Done: true, Answer: answer}
}

func sessionOf(next int, slots ...impl.Slot) impl.Session {
	return impl.Session{Next: next, Slots: slots}
}

// openSession has that many slots with the Ids 0, 1, 2 and on; none is Done.
func openSession(many int) impl.Session {
	s := impl.Session{Next: many}
	for i := range many {
		s.Slots = append(s.Slots, waiting(i))
	}
	return s
}

// heldSession is an openSession in which all but the first are Done, each with its answer.
func heldSession(many int) impl.Session {
	s := openSession(many)
	for i := 1; i < many; i++ {
		s.Slots[i] = doneWith(i, "<"+twoDigits(i)+">")
	}
	return s
}

func longAnswer(n int) string {
	return strings.Repeat("y", n)
}

func wantOpen(t *testing.T, s impl.Session, want impl.Session, id int, ok bool) {
	t.Helper()
	got, i, o := impl.OpenSlot(s)
	if !sameSession(got, want) || i != id || o != ok {
		t.Errorf("OpenSlot(%#v) = %#v, %d, %v; want %#v, %d, %v", s, got, i, o, want, id, ok)
	}
}

func wantClose(t *testing.T, s impl.Session, id int, answer string, want impl.Session, out string, ok bool) {
	t.Helper()
	got, text, o := impl.CloseSlot(s, id, answer)
	if !sameSession(got, want) || text != out || o != ok {
		t.Errorf("CloseSlot(%#v, %d, %q) = %#v, %q, %v; want %#v, %q, %v", s, id, answer, got, text, o, want, out, ok)
	}
}

// wantNoClose is wantClose where it is refused.
func wantNoClose(t *testing.T, s impl.Session, id int, answer string) {
	t.Helper()
	wantClose(t, s, id, answer, impl.Session{}, "", false)
}

func wantOpenIds(t *testing.T, s impl.Session, ids []int, ok bool) {
	t.Helper()
	if got, o := impl.OpenIds(s); !slices.Equal(got, ids) || o != ok {
		t.Errorf("OpenIds(%#v) = %v, %v; want %v, %v", s, got, o, ids, ok)
	}
}

func wantPlay(t *testing.T, order []int, answers []string, out string, left int, ok bool) {
	t.Helper()
	text, many, o := impl.PlaySession(order, answers)
	if text != out || many != left || o != ok {
		t.Errorf("PlaySession(%v, %q) = %q, %d, %v; want %q, %d, %v", order, answers, text, many, o, out, left, ok)
	}
}

// goodSessions have each condition of the chapter at its edges.
func goodSessions() map[string]impl.Session {
	last := impl.Session{Next: mostSlotNext}
	for i := range impl.MaxOpen {
		last.Slots = append(last.Slots, doneWith(mostSlotNext-impl.MaxOpen+i, longAnswer(mostAnswer)))
	}
	last.Slots[0] = waiting(mostSlotNext - impl.MaxOpen)
	return map[string]impl.Session{
		"the zero session":      {},
		"an empty list":         {Slots: []impl.Slot{}},
		"the last next":         {Next: mostSlotNext},
		"the id 0":              sessionOf(1, waiting(0)),
		"the id 0, a far next":  sessionOf(mostSlotNext, waiting(0)),
		"the last id":           sessionOf(mostSlotNext, waiting(mostSlotNext-1)),
		"ids one behind other":  sessionOf(3, waiting(1), waiting(2)),
		"ids far apart":         sessionOf(mostSlotNext, waiting(0), doneWith(500, "x"), waiting(mostSlotNext-1)),
		"done with an answer":   sessionOf(2, waiting(0), doneWith(1, "x")),
		"done with none":        sessionOf(2, waiting(0), doneWith(1, "")),
		"the longest answer":    sessionOf(2, waiting(0), doneWith(1, longAnswer(mostAnswer))),
		"an answer of any byte": sessionOf(2, waiting(0), doneWith(1, "\x00\xff\r\n")),
		"twenty-nine":           openSession(impl.MaxOpen - 1),
		"thirty":                openSession(impl.MaxOpen),
		"thirty, all but one":   heldSession(impl.MaxOpen),
		"all at the edge":       last,
	}
}

// badSessions break one condition each.
func badSessions() map[string]impl.Session {
	lastAlike := openSession(impl.MaxOpen)
	lastAlike.Slots[impl.MaxOpen-1].Id = impl.MaxOpen - 2
	lastAtNext := openSession(impl.MaxOpen)
	lastAtNext.Slots[impl.MaxOpen-1].Id = impl.MaxOpen
	lastLong := heldSession(impl.MaxOpen)
	lastLong.Slots[impl.MaxOpen-1].Answer = longAnswer(mostAnswer + 1)
	lastEager := openSession(impl.MaxOpen)
	lastEager.Slots[impl.MaxOpen-1].Answer = "x"
	return map[string]impl.Session{
		"a next below 0":           {Next: -1},
		"the least next":           {Next: math.MinInt},
		"a next too great":         {Next: mostSlotNext + 1},
		"a next too great, a slot": sessionOf(mostSlotNext+1, waiting(5)),
		"the greatest next":        {Next: math.MaxInt},
		"a next of 2^32":           {Next: 1 << 32},
		"thirty-one":               openSession(impl.MaxOpen + 1),
		"thirty-one held":          heldSession(impl.MaxOpen + 1),
		"an id below 0":            sessionOf(5, waiting(-1)),
		"the least id":             sessionOf(5, waiting(math.MinInt)),
		"a second id below 0":      sessionOf(5, waiting(0), waiting(-1)),
		"two of one id":            sessionOf(5, waiting(3), waiting(3)),
		"two of the id 0":          sessionOf(5, waiting(0), waiting(0)),
		"one done of the same id":  sessionOf(5, waiting(3), doneWith(3, "x")),
		"an id below the one":      sessionOf(5, waiting(3), waiting(2)),
		"a third below the first":  sessionOf(9, waiting(3), waiting(6), waiting(2)),
		"a third below the second": sessionOf(9, waiting(3), waiting(6), waiting(5)),
		"the last of one id":       lastAlike,
		"an id at next":            sessionOf(5, waiting(5)),
		"the id 0 at next 0":       sessionOf(0, waiting(0)),
		"an id above next":         sessionOf(5, waiting(6)),
		"the greatest id":          sessionOf(5, waiting(math.MaxInt)),
		"the greatest id, more":    sessionOf(5, waiting(math.MaxInt), waiting(math.MinInt)),
		"a second id at next":      sessionOf(5, waiting(0), waiting(5)),
		"the last id at next":      lastAtNext,
		"the first one done":       sessionOf(5, doneWith(0, "x")),
		"the first one done, bare": sessionOf(5, doneWith(0, "")),
		"all done":                 sessionOf(5, doneWith(0, "x"), doneWith(1, "y")),
		"the first of two done":    sessionOf(5, doneWith(0, "x"), waiting(1)),
		"an answer too long":       sessionOf(5, waiting(0), doneWith(1, longAnswer(mostAnswer+1))),
		"the last too long":        lastLong,
		"the first one eager":      sessionOf(5, impl.Slot{Id: 0, Answer: "x"}),
		"the second one eager":     sessionOf(5, waiting(0), impl.Slot{Id: 1, Answer: "x"}),
		"an eager zero byte":       sessionOf(5, waiting(0), impl.Slot{Id: 1, Answer: "\x00"}),
		"the last one eager":       lastEager,
	}
}

var wildSlotInts = []int{math.MinInt, math.MinInt + 1, -2, -1, 0, 1, 2, 28, 29, 30, 31, mostSlotNext - 1, mostSlotNext, mostSlotNext + 1, math.MaxInt - 1, math.MaxInt}

func wildAnswer(n *numbers) string {
	switch n.below(40) {
	case 0:
		return longAnswer(mostAnswer)
	case 1:
		return longAnswer(mostAnswer + 1)
	}
	return pick(n, []string{"", "a", "bc", "END\r\n", "\x00", "\xff\xfe", "STORED\r\n"})
}

// wildSession is good more often than not; otherwise one thing in it is drawn, or it has too many Slots.
func wildSession(n *numbers) impl.Session {
	var s impl.Session
	id := n.below(4)
	if n.below(10) == 0 {
		id = mostSlotNext - 20 - n.below(20)
	}
	for range n.below(impl.MaxOpen + 1) {
		one := waiting(id)
		if len(s.Slots) > 0 && n.below(2) == 0 {
			one = doneWith(id, wildAnswer(n))
		}
		s.Slots = append(s.Slots, one)
		id += 1 + n.below(3)
	}
	s.Next = id + n.below(3)
	if n.below(10) == 0 {
		s.Next = max(s.Next, mostSlotNext-n.below(2))
	}
	switch n.below(20) {
	case 0:
		s.Next = pick(n, wildSlotInts)
	case 1:
		s.Slots = append(s.Slots, openSession(impl.MaxOpen).Slots...)
	case 2, 3, 4, 5:
		if len(s.Slots) > 0 {
			spoilSlot(n, &s.Slots[n.below(len(s.Slots))])
		}
	}
	return s
}

func spoilSlot(n *numbers, one *impl.Slot) {
	switch n.below(3) {
	case 0:
		one.Id = pick(n, wildSlotInts)
	case 1:
		one.Done = !one.Done
	default:
		one.Answer = wildAnswer(n)
	}
}

// wildGoodSession is a wildSession that is good by the slow telling.
func wildGoodSession(n *numbers) impl.Session {
	for {
		if s := wildSession(n); slowGoodSession(s) {
			return s
		}
	}
}
