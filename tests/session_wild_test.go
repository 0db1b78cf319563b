package tests

import (
	"math"
	"slices"
	"strings"
	"testing"

	"loop.example/g00170/impl"
)

// shuffled are the numbers below many, each once, in a drawn order.
func shuffled(n *numbers, many int) []int {
	out := upTo(many)
	for i := range out {
		j := i + n.below(many-i)
		out[i], out[j] = out[j], out[i]
	}
	return out
}

// Promise 5: of a drawn order what went out is at each step a beginning of all answers in the order of opening, and all of them at the end.
func TestWhatGoesOutIsInOrder(t *testing.T) {
	n := &numbers{}
	for range 400 {
		many := 1 + n.below(impl.MaxOpen)
		s := impl.Session{Next: n.below(1000)}
		var ids []int
		var answers []string
		for i := range many {
			then, id, ok := impl.OpenSlot(s)
			if !ok {
				t.Fatal(s)
			}
			s, ids = then, append(ids, id)
			answers = append(answers, "<"+twoDigits(i)+strings.Repeat("-", n.below(4))+">")
		}
		whole, out := strings.Join(answers, ""), ""
		for step, at := range shuffled(n, many) {
			then, gone, ok := impl.CloseSlot(s, ids[at], answers[at])
			if !ok {
				t.Fatal(s, at)
			}
			s, out = then, out+gone
			if !strings.HasPrefix(whole, out) || !impl.GoodSession(s) {
				t.Fatalf("%q went out of %q; the session is %v", out, whole, s)
			}
			// A second time adds nothing.
			wantNoClose(t, s, ids[at], answers[at])
			if left, _ := impl.OpenIds(s); len(left) != many-step-1 || slices.Contains(left, ids[at]) {
				t.Fatal(left, step, ids[at])
			}
		}
		if out != whole || len(s.Slots) != 0 {
			t.Fatalf("%q went out of %q; the session is %v", out, whole, s)
		}
	}
}

// Promise 5: also while slots are opened between, over rows longer than there is room for at once.
func TestWhatGoesOutWhileOthersCome(t *testing.T) {
	n := &numbers{}
	full, behind := 0, 0
	for range 100 {
		s := impl.Session{}
		asked, out := "", ""
		answers := map[int]string{}
		for range 500 {
			if n.below(2) == 0 {
				then, id, ok := impl.OpenSlot(s)
				if !ok {
					full++
					continue
				}
				s = then
				answers[id] = "<" + twoDigits(id%100) + ">"
				asked += answers[id]
				continue
			}
			ids, _ := impl.OpenIds(s)
			if len(ids) == 0 {
				continue
			}
			id := pick(n, ids)
			then, gone, ok := impl.CloseSlot(s, id, answers[id])
			if !ok {
				t.Fatal(s, id)
			}
			if gone == "" {
				behind++
			}
			s, out = then, out+gone
			if !strings.HasPrefix(asked, out) {
				t.Fatalf("%q went out of %q", out, asked)
			}
		}
		for {
			ids, _ := impl.OpenIds(s)
			if len(ids) == 0 {
				break
			}
			last := ids[len(ids)-1]
			then, gone, _ := impl.CloseSlot(s, last, answers[last])
			s, out = then, out+gone
		}
		if out != asked || len(s.Slots) != 0 || s.Next != len(answers) {
			t.Fatalf("%q went out of %q; the session is %v", out, asked, s)
		}
	}
	if full < 100 || behind < 1000 {
		t.Error(full, behind)
	}
}

// Promise 5, by PlaySession: a drawn order that has each number, some more than once, tells all answers in order; each beginning of it a beginning of them.
func TestPlayTellsInOrder(t *testing.T) {
	n := &numbers{}
	for range 200 {
		many := n.below(impl.MaxOpen + 1)
		answers := thirtyAnswers()[:many]
		whole := strings.Join(answers, "")
		var order []int
		for _, id := range shuffled(n, many) {
			order = append(order, id)
			for n.below(3) == 0 && len(order) < mostOrder-impl.MaxOpen {
				order = append(order, pick(n, order))
			}
		}
		told := ""
		for i := range len(order) + 1 {
			out, _, ok := impl.PlaySession(order[:i], answers)
			if !ok || !strings.HasPrefix(whole, out) || !strings.HasPrefix(out, told) {
				t.Fatalf("PlaySession(%v, %q) = %q, %v", order[:i], answers, out, ok)
			}
			told = out
		}
		wantPlay(t, order, answers, whole, 0, true)
	}
}

// Promise 10: the answer at any arguments, held against the slow telling; and what was handed in is as it was.
func TestSessionsAtAnyArguments(t *testing.T) {
	n := &numbers{}
	told := map[string]int{}
	for range 30000 {
		s := wildSession(n)
		kept := copyOfSession(s)
		want, id, ok := slowOpen(kept)
		wantOpen(t, s, want, id, ok)
		if ok {
			told["opened"]++
		} else if slowGoodSession(kept) {
			told["no room"]++
		}
		id, answer := pick(n, wildSlotInts), wildAnswer(n)
		if len(s.Slots) > 0 && n.below(4) > 0 {
			id = s.Slots[n.below(min(len(s.Slots), 1+n.below(len(s.Slots))))].Id
		}
		want, out, ok := slowClose(kept, id, answer)
		wantClose(t, s, id, answer, want, out, ok)
		switch {
		case !ok && slowGoodSession(kept):
			told["not closed"]++
		case ok && len(want.Slots) == len(s.Slots):
			told["closed"]++
		case ok:
			told["went out"]++
		}
		ids, ok := slowOpenIds(kept)
		wantOpenIds(t, s, ids, ok)
		if !sameSession(s, kept) {
			t.Fatalf("the session was %v, and is %v", kept, s)
		}
		if t.Failed() {
			return
		}
	}
	for _, what := range []string{"opened", "no room", "not closed", "closed", "went out"} {
		if told[what] < 300 {
			t.Error(what, told[what])
		}
	}
}

// Promise 10: nothing behind the list's length is read, written or handed out, and no answer lies in an argument's memory.
func TestSessionsShareNoMemory(t *testing.T) {
	behind := doneWith(-77, "behind")
	for many := range impl.MaxOpen + 1 {
		whole := make([]impl.Slot, impl.MaxOpen+5)
		for i := range whole {
			whole[i] = behind
		}
		copy(whole, heldSession(many).Slots)
		s := impl.Session{Next: many, Slots: whole[:many]}
		var answers []impl.Session
		got, _, _ := impl.OpenSlot(s)
		answers = append(answers, got)
		got, _, _ = impl.OpenSlot(s)
		answers = append(answers, got)
		if many > 2 {
			whole[2] = waiting(2)
			got, _, ok := impl.CloseSlot(s, 2, "<02>")
			answers = append(answers, got)
			got, _, okToo := impl.CloseSlot(s, 0, "<00>")
			answers = append(answers, got)
			if !ok || !okToo {
				t.Error(s)
			}
			whole[2] = doneWith(2, "<02>")
		}
		ids, _ := impl.OpenIds(s)
		again, _ := impl.OpenIds(s)
		if sameList(ids, again) {
			t.Error("two answers share their memory")
		}
		for i, a := range answers {
			wantOwnSlots(t, answers[:i], a, whole, behind)
		}
		if !slices.Equal(whole[:many], heldSession(many).Slots) {
			t.Errorf("what was handed in is %v", whole[:many])
		}
		for _, one := range whole[many:] {
			if one != behind {
				t.Errorf("behind the list stands %v", one)
			}
		}
	}
}

// wantOwnSlots writes into the answer as far as its memory goes.
func wantOwnSlots(t *testing.T, elder []impl.Session, a impl.Session, whole []impl.Slot, behind impl.Slot) {
	t.Helper()
	if sameList(a.Slots, whole) {
		t.Errorf("%v lies in the argument's memory", a)
	}
	for _, e := range elder {
		if sameList(a.Slots, e.Slots) {
			t.Errorf("%v and %v share their memory", a, e)
		}
	}
	room := a.Slots[:cap(a.Slots)]
	if slices.Contains(room, behind) {
		t.Errorf("%v was handed out", room)
	}
	for i := range room {
		room[i] = impl.Slot{Id: math.MaxInt}
	}
}

// Promise 10: texts too lie in memory of their own.
func TestSessionTextsAreTheirOwn(t *testing.T) {
	given := strings.Repeat("given", 20)
	s := sessionOf(9, waiting(1), doneWith(2, strings.Repeat("held", 20)), waiting(3), doneWith(4, strings.Repeat("back", 20)), waiting(5))
	var in []string
	for _, one := range s.Slots {
		in = append(in, one.Answer)
	}
	in = append(in, given)
	var out []string
	opened, _, _ := impl.OpenSlot(s)
	closed, none, ok := impl.CloseSlot(s, 5, given)
	gone, text, okToo := impl.CloseSlot(s, 1, given)
	alone, single, okThree := impl.CloseSlot(openSession(1), 0, given)
	if !ok || !okToo || !okThree {
		t.Fatal(closed, gone, alone)
	}
	for _, a := range []impl.Session{opened, closed, gone, alone} {
		for _, one := range a.Slots {
			out = append(out, one.Answer)
		}
	}
	played, _, _ := impl.PlaySession([]int{0}, []string{given})
	out = append(out, none, text, single, played)
	for i, a := range out {
		for _, b := range in {
			if shares(a, b) {
				t.Errorf("%q lies in an argument's memory", a)
			}
		}
		for _, b := range out[:i] {
			if shares(a, b) {
				t.Errorf("%q lies in another answer's memory", a)
			}
		}
	}
}

// Promise 10: PlaySession neither reads nor writes behind its lists.
func TestPlaySessionLeavesItsLists(t *testing.T) {
	order := []int{1, 0, 2, 77, 77}
	answers := []string{"a", "b", "c", "behind", "behind"}
	wantPlay(t, order[:2], answers[:3], "ab", 1, true)
	wantPlay(t, order[:3], answers[:2], "ab", 0, true)
	if !slices.Equal(order, []int{1, 0, 2, 77, 77}) || !slices.Equal(answers, []string{"a", "b", "c", "behind", "behind"}) {
		t.Error(order, answers)
	}
}

// An answer stays as it is when what it came from is used again.
func TestAnElderSessionStaysAsItWas(t *testing.T) {
	base := openSession(3)
	one, _, _ := impl.CloseSlot(base, 1, "x")
	two, _, _ := impl.CloseSlot(base, 2, "y")
	three, _, _ := impl.OpenSlot(one)
	four, out, _ := impl.CloseSlot(one, 0, "z")
	for _, c := range []struct {
		s, want impl.Session
	}{
		{base, openSession(3)},
		{one, sessionOf(3, waiting(0), doneWith(1, "x"), waiting(2))},
		{two, sessionOf(3, waiting(0), waiting(1), doneWith(2, "y"))},
		{three, sessionOf(4, waiting(0), doneWith(1, "x"), waiting(2), waiting(3))},
		{four, sessionOf(3, waiting(2))},
	} {
		if !sameSession(c.s, c.want) {
			t.Errorf("%v, want %v", c.s, c.want)
		}
	}
	if out != "zx" {
		t.Error(out)
	}
}
