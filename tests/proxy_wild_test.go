package tests

import (
	"slices"
	"strings"
	"testing"

	"loop.example/g00170/impl"
)

// drawing is what events are drawn by: how many keys there are, how many other
// events may stand between the bytes, and which ticks and kinds are drawn.
type drawing struct {
	keys    int
	most    int
	ticks   []int
	crashes bool
}

var shortTicks = []int{0, 1, 2, 5, 13, 30}

// wildStream is the text of many commands, with faults of each kind among them; a quit is rare.
func wildStream(n *numbers, keys int) string {
	var text strings.Builder
	known := impl.Store{Limit: impl.MaxLimit, Next: 1}
	if n.below(3) == 0 {
		text.WriteString(wildFill(n, keys))
	}
	for range pick(n, []int{0, 5, 20, 60, 120}) {
		if n.below(8) == 0 {
			text.WriteString(wildFault(n))
			continue
		}
		c := wildCmd(n, keys, known)
		if c.Name == "quit" && n.below(12) > 0 {
			c.Name = "version"
		}
		s, _ := impl.CmdText(c)
		text.WriteString(s)
		known, _, _ = slowDo(known, 0, c)
	}
	if n.below(3) == 0 {
		text.WriteString(pick(n, []string{"g", "get 00", "set 00 0 0 9\r\nshort", key(impl.MaxLine), "\r"}))
	}
	return text.String()
}

// wildFill stores most of the keys for good, so that there is something to move, and to forget where they are many.
func wildFill(n *numbers, keys int) string {
	text := ""
	for i := range keys {
		s, _ := impl.CmdText(impl.Cmd{Name: "set", Keys: []string{twoDigits(i)}, Data: key(n.below(60)), Quiet: n.below(5) > 0})
		text += s
	}
	return text
}

func wildFault(n *numbers) string {
	return pick(n, []string{
		"fly\r\n", "\r\n", "GET 00\r\n", "get\n", "get 00 \r\n", "set 00 0 0 01\r\n", "incr 00 -1\r\n", "quit noreply\r\n", "version 1\r\n",
		"set 00 0 0 3\r\nabcde", "cas 00 0 0 1 7 noreply\r\nx\n\r", "set 00 0 0 101\r\n" + key(101) + "\r\n",
		"append 00 0 0 1000 noreply\r\n" + strings.Repeat("quit\r\n", 166) + "abcd\r\n", "set 00 0 0 1001\r\n", strings.Repeat("x", impl.MaxLine+1),
	})
}

// wildOther is an event that brings no bytes; some of them may not be.
func wildOther(n *numbers, d drawing) impl.Event {
	switch n.below(12) {
	case 0, 1, 2:
		return beginEvent(fewNodes(n))
	case 3, 4:
		return copyEvent(pick(n, []int{0, 1, 2, 3, 10}))
	case 5:
		return copyEvent(mostCopied)
	case 6, 7:
		return endEvent()
	case 8, 9:
		return tickEvent(pick(n, d.ticks))
	case 10:
		return pick(n, []impl.Event{{}, {Kind: -1, Bytes: "quit\r\n"}, {Kind: 7, N: 3}, beginEvent(nil), copyEvent(-1), copyEvent(101), tickEvent(-1), crashEvent("nobody")})
	}
	if d.crashes {
		return crashEvent(pick(n, []string{"a", "b", "", "nobody"}))
	}
	return endEvent()
}

// wildEvents are drawn events between the bytes of a drawn text, anywhere.
func wildEvents(n *numbers, d drawing) []impl.Event {
	text := wildStream(n, d.keys)
	var at []int
	var others []impl.Event
	for range n.below(d.most + 1) {
		at = append(at, n.below(len(text)+1))
		others = append(others, wildOther(n, d))
	}
	slices.Sort(at)
	return cut(text, at, others)
}

// namedNodes are drawn ones, with names among them that crash.
func namedNodes(n *numbers) []impl.Node {
	if n.below(2) == 0 {
		return pick(n, [][]impl.Node{twoNodes(), laterNodes(), oneNode("a"), oneNode("b")})
	}
	return fewNodes(n)
}

// Promise 8: what goes out of a cluster of MaxLimit is what goes out of one
// store, wherever nothing was forgotten in either; each answer is whole.
func TestTheProxyAnswersAsOneStore(t *testing.T) {
	n := &numbers{}
	same, forgot, moved := 0, 0, 0
	told := map[string]int{}
	for round := range 3000 {
		d := drawing{keys: pick(n, []int{2, 5, 12, 40, 90}), most: pick(n, []int{0, 4, 12, 29}), ticks: shortTicks}
		if round%4 == 0 {
			d.ticks = append(slices.Clone(shortTicks), impl.MaxNow-40, impl.MaxNow-1, impl.MaxNow, impl.MaxNow+1, impl.MaxNow/2, -impl.MaxNow)
		}
		nodes, l := fewNodes(n), wildEvents(n, d)
		c, out := ran(t, nodes, impl.MaxLimit, l...)
		one, lost, ok := impl.ModelEvents(l)
		wantWhole(t, one)
		if !ok {
			t.Fatalf("ModelEvents(%+v) says false", l)
		}
		if c.Lost > 0 || lost > 0 {
			forgot++
			continue
		}
		if out != one {
			t.Fatalf("RunEvents(%v, .., %+v) tells %q; one store tells %q", nodes, l, out, one)
		}
		same++
		if !slices.Equal(c.Nodes, nodes) {
			moved++
		}
		answers, _ := impl.AnswersIn(out)
		for _, a := range answers {
			told[strings.TrimRight(a, "0123456789\r\n")]++
			if strings.Count(a, "VALUE ") > 1 {
				told["several values"]++
			}
		}
	}
	if same < 2000 || forgot < 50 || moved < 300 {
		t.Error(same, forgot, moved)
	}
	wantToldOften(t, told, 100)
}

// wantToldOften says that each kind of answer was there, so that all of them were held against each other.
func wantToldOften(t *testing.T, told map[string]int, least int) {
	t.Helper()
	for _, answer := range []string{"STORED", "NOT_STORED", "EXISTS", "NOT_FOUND", "TOUCHED", "DELETED", "OK", "VERSION ", "ERROR", "CLIENT_ERROR bad", "SERVER_ERROR large", "END", "", "several values"} {
		if told[answer] < least {
			t.Errorf("%q was told %d times", answer, told[answer])
		}
	}
}

// Promise 8 where time comes to its end: whatever the ticks are, old is old in the cluster and in the one store alike.
func TestTheProxyAnswersAsOneStoreAtTheEndOfTime(t *testing.T) {
	n := &numbers{}
	ticks := []int{0, 1, 2, 5, 9, impl.MaxNow - 30, impl.MaxNow - 3, impl.MaxNow, impl.MaxNow + 1, -1, -impl.MaxNow, impl.MaxNow / 3, 1<<63 - 1, -1 << 63}
	atEnd, old := 0, 0
	for range 3000 {
		l := []impl.Event{tickEvent(impl.MaxNow - n.below(40))}
		for range 1 + n.below(14) {
			k, expire := twoDigits(n.below(3)), pick(n, []string{"0", "1", "2", "5", "30", "999999990", "1000000000"})
			text := pick(n, []string{"set " + k + " 0 " + expire + " 1\r\nx\r\n", "touch " + k + " " + expire + "\r\n", "add " + k + " 0 " + expire + " 1\r\ny\r\n"})
			at := n.below(len(text))
			l = append(l, bytesEvent(text[:at]), tickEvent(pick(n, ticks)), bytesEvent(text[at:]+"gets 00 01 02\r\n"))
			if n.below(3) == 0 {
				l = append(l, beginEvent(fewNodes(n)))
			}
		}
		l = l[:min(len(l), impl.MaxEvents)]
		c, out := ran(t, fewNodes(n), impl.MaxLimit, l...)
		wantModel(t, "the end of time", out, 0, l...)
		if c.Now == impl.MaxNow {
			atEnd++
		}
		still := slices.DeleteFunc(slices.Clone(l), func(e impl.Event) bool { return e.Kind == impl.EventTick })
		if forGood, _, _ := impl.ModelEvents(still); forGood != out {
			old++
		}
		if t.Failed() {
			return
		}
	}
	if atEnd < 1000 || old < 100 {
		t.Error(atEnd, old)
	}
}

// RunEvents and ModelEvents against the second telling: with little room, crashes and all that may not be.
func TestEventsAgainstSlowEvents(t *testing.T) {
	n := &numbers{}
	lost, crashes, forgot := 0, 0, 0
	told := map[string]int{}
	for range 500 {
		d := drawing{keys: pick(n, []int{3, 8, 30, 90}), most: pick(n, []int{3, 12, 29}), ticks: append(slices.Clone(shortTicks), impl.MaxNow), crashes: true}
		nodes, limit := namedNodes(n), pick(n, []int{0, 11, 12, 40, 130, 300, 1000, impl.MaxLimit})
		l := wildEvents(n, d)
		want, answers := slowRun(nodes, limit, l)
		c, out := ran(t, nodes, limit, l...)
		if !sameCluster(c, want) || out != answers {
			t.Fatalf("RunEvents(%v, %d, %+v) = %+v, %q; want %+v, %q", nodes, limit, l, c, out, want, answers)
		}
		one, gone := slowModel(l)
		wantModel(t, "drawn events", one, gone, l...)
		lost, forgot = lost+c.Lost, forgot+gone
		for _, e := range l {
			if e.Kind == impl.EventCrash && (e.Bytes == "a" || e.Bytes == "b") {
				crashes++
			}
		}
		for _, line := range strings.Split(out, "\r\n") {
			told[line]++
		}
		if t.Failed() {
			return
		}
	}
	if lost < 500 || crashes < 100 || forgot < 100 || told["SERVER_ERROR full"] < 100 {
		t.Error(lost, crashes, forgot, told["SERVER_ERROR full"])
	}
}

// Where the bytes are cut changes nothing that goes out, if nothing else happens.
func TestCutsOfEventsChangeNothing(t *testing.T) {
	n := &numbers{}
	for _, s := range append(slices.Clone(streams), wildStream(n, 5), wildStream(n, 5), wildStream(n, 5)) {
		c, out := ran(t, twoNodes(), 300, bytesEvent(s))
		for at := range len(s) + 1 {
			then := wantOut(t, "two pieces", twoNodes(), 300, out, bytesEvent(s[:at]), bytesEvent(s[at:]))
			wantCluster(t, "two pieces", then, c)
		}
		for range 50 {
			var l []impl.Event
			for _, piece := range cutAtRandom(n, s) {
				l = append(l, bytesEvent(piece))
			}
			wantCluster(t, "sixty pieces", wantOut(t, "sixty pieces", twoNodes(), 300, out, l...), c)
		}
		if t.Failed() {
			return
		}
	}
}
