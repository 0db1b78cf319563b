package tests

import (
	"math"
	"slices"
	"testing"

	"loop.example/g00170/impl"
)

func TestOpenSlot(t *testing.T) {
	wantOpen(t, impl.Session{}, sessionOf(1, waiting(0)), 0, true)
	wantOpen(t, sessionOf(1, waiting(0)), openSession(2), 1, true)
	wantOpen(t, sessionOf(7), sessionOf(8, waiting(7)), 7, true)
	wantOpen(t, sessionOf(7, waiting(2)), sessionOf(8, waiting(2), waiting(7)), 7, true)
	wantOpen(t, sessionOf(7, waiting(6)), sessionOf(8, waiting(6), waiting(7)), 7, true)
}

// What is Done behind the first keeps its place and its answer.
func TestOpenSlotBehindThoseThatAreDone(t *testing.T) {
	s := sessionOf(9, waiting(3), doneWith(5, "x"), doneWith(8, ""))
	wantOpen(t, s, sessionOf(10, waiting(3), doneWith(5, "x"), doneWith(8, ""), waiting(9)), 9, true)
}

func TestOpenSlotAtTheLastNext(t *testing.T) {
	wantOpen(t, sessionOf(mostSlotNext-1), sessionOf(mostSlotNext, waiting(mostSlotNext-1)), mostSlotNext-1, true)
	wantOpen(t, sessionOf(mostSlotNext-1, waiting(4)), sessionOf(mostSlotNext, waiting(4), waiting(mostSlotNext-1)), mostSlotNext-1, true)
	wantOpen(t, sessionOf(mostSlotNext), impl.Session{}, 0, false)
	wantOpen(t, sessionOf(mostSlotNext, waiting(4)), impl.Session{}, 0, false)
}

func TestOpenSlotWithAndWithoutRoom(t *testing.T) {
	wantOpen(t, openSession(impl.MaxOpen-1), openSession(impl.MaxOpen), impl.MaxOpen-1, true)
	wantOpen(t, openSession(impl.MaxOpen), impl.Session{}, 0, false)
	wantOpen(t, heldSession(impl.MaxOpen), impl.Session{}, 0, false)
}

// A slot that has gone out has left its room.
func TestRoomAfterGoingOut(t *testing.T) {
	s, out, ok := impl.CloseSlot(openSession(impl.MaxOpen), 0, "x")
	if out != "x" || !ok {
		t.Fatal(out, ok)
	}
	want := sessionOf(impl.MaxOpen+1, append(openSession(impl.MaxOpen).Slots[1:], waiting(impl.MaxOpen))...)
	wantOpen(t, s, want, impl.MaxOpen, true)
	wantOpen(t, want, impl.Session{}, 0, false)
	// One that is Done and not gone has not.
	s, out, ok = impl.CloseSlot(openSession(impl.MaxOpen), 1, "x")
	if out != "" || !ok {
		t.Fatal(out, ok)
	}
	wantOpen(t, s, impl.Session{}, 0, false)
}

// The first slot goes with as many of the others as are Done right behind it.
func TestCloseTheFirst(t *testing.T) {
	wantClose(t, openSession(1), 0, "a", sessionOf(1), "a", true)
	wantClose(t, openSession(3), 0, "a", sessionOf(3, waiting(1), waiting(2)), "a", true)
	held := sessionOf(6, waiting(1), doneWith(2, "b"), waiting(3), doneWith(4, "d"))
	wantClose(t, held, 1, "a", sessionOf(6, waiting(3), doneWith(4, "d")), "ab", true)
	last := sessionOf(6, waiting(1), waiting(2), doneWith(4, "d"))
	wantClose(t, last, 1, "a", sessionOf(6, waiting(2), doneWith(4, "d")), "a", true)
	all := sessionOf(6, waiting(1), doneWith(2, "b"), doneWith(4, "d"))
	wantClose(t, all, 1, "a", sessionOf(6), "abd", true)
	bare := sessionOf(6, waiting(1), doneWith(2, ""), doneWith(4, "d"))
	wantClose(t, bare, 1, "", sessionOf(6), "d", true)
}

func TestCloseTheFirstOfThirty(t *testing.T) {
	out := "<00>"
	for i := 1; i < impl.MaxOpen; i++ {
		out += "<" + twoDigits(i) + ">"
	}
	wantClose(t, heldSession(impl.MaxOpen), 0, "<00>", sessionOf(impl.MaxOpen), out, true)
	s := heldSession(impl.MaxOpen)
	for i := range s.Slots {
		if i > 0 {
			s.Slots[i].Answer = longAnswer(mostAnswer)
		}
	}
	wantClose(t, s, 0, longAnswer(mostAnswer), sessionOf(impl.MaxOpen), longAnswer(impl.MaxOpen*mostAnswer), true)
}

// Behind the first nothing goes out, whatever is Done round it.
func TestCloseOneBehind(t *testing.T) {
	wantClose(t, openSession(3), 1, "b", sessionOf(3, waiting(0), doneWith(1, "b"), waiting(2)), "", true)
	wantClose(t, openSession(3), 2, "c", sessionOf(3, waiting(0), waiting(1), doneWith(2, "c")), "", true)
	wantClose(t, sessionOf(3, waiting(0), waiting(1), doneWith(2, "c")), 1, "b", sessionOf(3, waiting(0), doneWith(1, "b"), doneWith(2, "c")), "", true)
	wantClose(t, openSession(2), 1, "", sessionOf(2, waiting(0), doneWith(1, "")), "", true)
	last := mostSlotNext - 1
	wantClose(t, sessionOf(mostSlotNext, waiting(5), waiting(last)), last, "z", sessionOf(mostSlotNext, waiting(5), doneWith(last, "z")), "", true)
}

func TestCloseAnswersOfAnyLength(t *testing.T) {
	for _, many := range []int{0, 1, mostAnswer - 1, mostAnswer} {
		a := longAnswer(many)
		wantClose(t, openSession(1), 0, a, sessionOf(1), a, true)
		wantClose(t, openSession(2), 1, a, sessionOf(2, waiting(0), doneWith(1, a)), "", true)
	}
	for _, many := range []int{mostAnswer + 1, 2 * mostAnswer} {
		wantNoClose(t, openSession(1), 0, longAnswer(many))
		wantNoClose(t, openSession(2), 1, longAnswer(many))
	}
	bytes := "\x00\r\n\xff \n"
	wantClose(t, openSession(1), 0, bytes, sessionOf(1), bytes, true)
}

func TestCloseWhatIsNotThere(t *testing.T) {
	s := sessionOf(20, waiting(3), doneWith(5, "x"), waiting(8))
	for _, id := range append([]int{0, 2, 4, 6, 7, 9, 19, 20, 21}, wildSlotInts...) {
		wantNoClose(t, s, id, "a")
	}
	// Of places in the list none counts: 0, 1 and 2 are no Ids here.
	wantNoClose(t, s, 1, "a")
	wantNoClose(t, impl.Session{}, 0, "a")
	wantNoClose(t, impl.Session{}, 0, "")
	wantNoClose(t, sessionOf(7), 0, "")
	wantNoClose(t, sessionOf(7), 7, "")
}

func TestCloseWhatIsDone(t *testing.T) {
	s := sessionOf(20, waiting(3), doneWith(5, "x"), doneWith(8, ""))
	for _, id := range []int{5, 8} {
		for _, a := range []string{"", "x", "other"} {
			wantNoClose(t, s, id, a)
		}
	}
	// What went out has no slot any more.
	then, _, _ := impl.CloseSlot(s, 3, "a")
	for _, id := range []int{3, 5, 8} {
		wantNoClose(t, then, id, "x")
	}
}

func TestOpenIds(t *testing.T) {
	wantOpenIds(t, impl.Session{}, nil, true)
	wantOpenIds(t, sessionOf(mostSlotNext), nil, true)
	wantOpenIds(t, sessionOf(5, waiting(0)), []int{0}, true)
	wantOpenIds(t, sessionOf(5, waiting(2), waiting(3), waiting(4)), []int{2, 3, 4}, true)
	wantOpenIds(t, sessionOf(9, waiting(2), doneWith(3, "x"), waiting(4), doneWith(5, ""), waiting(8)), []int{2, 4, 8}, true)
	wantOpenIds(t, sessionOf(9, waiting(2), doneWith(3, "x"), doneWith(4, "")), []int{2}, true)
	wantOpenIds(t, heldSession(impl.MaxOpen), []int{0}, true)
	var all []int
	for i := range impl.MaxOpen {
		all = append(all, i)
	}
	wantOpenIds(t, openSession(impl.MaxOpen), all, true)
}

func TestOpenIdsFollowTheSession(t *testing.T) {
	s := openSession(4)
	for _, c := range []struct {
		id   int
		left []int
	}{{2, []int{0, 1, 3}}, {0, []int{1, 3}}, {3, []int{1}}, {1, nil}} {
		then, _, ok := impl.CloseSlot(s, c.id, "x")
		if !ok {
			t.Fatal(s, c.id)
		}
		wantOpenIds(t, then, c.left, true)
		s = then
	}
	if s.Next != 4 || len(s.Slots) != 0 {
		t.Error(s)
	}
}

// Ids go on where they were, though nothing is open.
func TestIdsAreNeverUsedAgain(t *testing.T) {
	s := impl.Session{}
	var told []int
	for i := range 100 {
		then, id, ok := impl.OpenSlot(s)
		if id != i || !ok {
			t.Fatal(id, ok)
		}
		told = append(told, id)
		if s, _, ok = impl.CloseSlot(then, id, ""); !ok || len(s.Slots) != 0 {
			t.Fatal(s, ok)
		}
	}
	if !slices.IsSorted(told) || s.Next != 100 {
		t.Error(told, s)
	}
}

func TestCloseAtTheGreatestNumbers(t *testing.T) {
	for _, s := range goodSessions() {
		for _, id := range []int{math.MinInt, -1, mostSlotNext, math.MaxInt} {
			wantNoClose(t, s, id, "x")
		}
	}
}
