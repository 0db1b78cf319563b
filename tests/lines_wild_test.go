package tests

import (
	"fmt"
	"slices"
	"strings"
	"testing"

	"loop.example/g00170/impl"
)

// wildRows is what a client sends, cut behind each byte 10; faults of each kind are among it, and rarely a quit.
func wildRows(n *numbers, keys int) []string {
	var text strings.Builder
	known := impl.Store{Limit: impl.MaxLimit, Next: 1}
	for range 40 {
		if n.below(10) == 0 {
			text.WriteString(pick(n, []string{"fly\r\n", "\r\n", "get\n", "get 00 \r\n", "incr 00 -1\r\n", "quit noreply\r\n", "set 00 0 0 3\r\nabcde", "set 00 0 0 101\r\n" + key(101) + "\r\n", key(impl.MaxLine + 1)}))
			continue
		}
		c := wildCmd(n, keys, known)
		if c.Name == "quit" && n.below(12) > 0 {
			c.Name = "version"
		}
		s, _ := impl.CmdText(c)
		text.WriteString(s)
		known, _, _ = slowDo(known, 0, c)
	}
	return strings.Split(text.String(), "\n")
}

// wildLine brings no bytes; some of them are spoilt.
func wildLine(n *numbers, keys int) string {
	switch n.below(12) {
	case 0, 1:
		return "begin " + pick(n, []string{"a:1", "a:1", "b:2", "c:3", "a:1 b:2", "a:2 b:2 c:1", "b:1 c:5", slowNodesText(wildNodes(n)), spoiltNodes(n)})
	case 2, 3:
		return "copy " + pick(n, []string{"0", "1", "1", "2", "3", "100", "100", "101", "1000000000", "1000000001", "01", "-1", "", "1 "})
	case 4, 5:
		return "end"
	case 6:
		return "tick " + pick(n, []string{"0", "1", "1", "2", "2", "5", "9", "30", "1000000000", "999999990", "1000000001", "00", "+1", " 1"})
	case 7:
		return "crash " + pick(n, []string{"a", "b", "c", "d", "nobody", "", "a b", "a "})
	case 8, 9:
		return "where " + pick(n, []string{twoDigits(n.below(keys)), twoDigits(n.below(keys)), twoDigits(n.below(keys)), "none", "", "00 01", key(31)})
	case 10:
		return pick(n, []string{"lost", "ring", "ring", "ring"})
	}
	return pick(n, []string{"", " ", ">", ">x", "fly", "end ", "ring 1", "lost ", "begin", "copy", "Where 00", "tick", "\x00", "\r", "> ", "> \r", "> fly"})
}

// wildScript are drawn lines, as many at most, and of no more bytes than a script may have.
func wildScript(n *numbers, most int) []string {
	keys := pick(n, []int{1, 3, 6, 12})
	rows := wildRows(n, keys)
	often := 1 + n.below(4)
	var out []string
	size := 0
	for len(out) < most {
		line := wildLine(n, keys)
		if len(rows) > 0 && n.below(5) < often {
			line = "> " + strings.TrimSuffix(rows[0], "\r")
			rows = rows[1:]
		}
		line = strings.ReplaceAll(line, "\n", "")
		size += len(line) + 1
		if size > impl.MaxScript {
			return out
		}
		out = append(out, line)
	}
	return out
}

// RunCache and EventsOfText of drawn scripts, held against the second telling.
func TestScriptsAgainstSlowScripts(t *testing.T) {
	n := &numbers{}
	seen := map[string]int{}
	for range 2500 {
		l := wildScript(n, pick(n, []int{3, 20, impl.MaxLines, impl.MaxLines}))
		p, ok := slowPlays(script(l...))
		if !ok {
			t.Fatalf("%q is no script", l)
		}
		wantCache(t, "drawn lines", script(l...), strings.Join(p.told, ""))
		wantEvents(t, script(l...), p.events...)
		for i, line := range l {
			seen[strings.SplitAfter(line, " ")[0]+strings.TrimSuffix(p.told[i], "\n")]++
		}
		if t.Failed() {
			return
		}
	}
	for _, what := range []string{
		"begin ok", "begin no", "begin what", "copy ok", "copy no", "copy what", "endok", "endno", "tick ok", "tick what", "crash ok", "crash no", "crash what",
		"where at", "where at a", "where at b", "where at c", "where what", "lostlost 0", "lost what", "ringa:1", "ringb:2", "ringa:1 > b:2", "ring what", ">what", "what", "> ",
		"> ERROR$\n", "> CLIENT_ERROR bad$\n", "> CLIENT_ERROR bad$\nERROR$\n", "> SERVER_ERROR large$\n", "> STORED$\n", "> NOT_STORED$\n", "> EXISTS$\n", "> NOT_FOUND$\n", "> TOUCHED$\n", "> DELETED$\n", "> OK$\n", "> VERSION 1$\n", "> END$\n",
	} {
		if seen[what] < 20 {
			t.Errorf("%q was told %d times", what, seen[what])
		}
	}
}

// Promise 9: what is told of the beginning of a script, cut behind any line, is the beginning of what is told of the whole.
func TestAnswersDoNotHangOnWhatFollows(t *testing.T) {
	n := &numbers{}
	for range 250 {
		l := wildScript(n, impl.MaxLines)
		p, _ := slowPlays(script(l...))
		all := impl.RunCache(script(l...))
		events, _ := impl.EventsOfText(script(l...))
		for at := range len(l) + 1 {
			told := impl.RunCache(script(l[:at]...))
			if told != strings.Join(p.told[:at], "") || !strings.HasPrefix(all, told) {
				t.Fatalf("RunCache(%q) = %q; of the whole it tells %q", l[:at], told, all)
			}
			if some, ok := impl.EventsOfText(script(l[:at]...)); !ok || len(some) > len(events) || !sameEvents(some, events[:len(some)]) {
				t.Fatalf("EventsOfText(%q) = %+v, %v; of the whole it tells %+v", l[:at], some, ok, events)
			}
			other := script(append(slices.Clone(l[:at]), wildScript(n, 2)...)...)
			if then := impl.RunCache(other); len(other) <= impl.MaxScript && strings.Count(other, "\n") <= impl.MaxLines && !strings.HasPrefix(then, told) {
				t.Fatalf("RunCache(%q) = %q; of its beginning it tells %q", other, then, told)
			}
		}
	}
}

// RunEvents of a script's events tells to go out what its lines of bytes told, and ends in the cluster that its other lines tell of.
func TestEventsOfScripts(t *testing.T) {
	n := &numbers{}
	moving, items := 0, 0
	for range 600 {
		l := wildScript(n, 40)
		events, ok := impl.EventsOfText(script(l...))
		if !ok {
			t.Fatalf("EventsOfText(%q) says false", l)
		}
		p, _ := slowPlays(script(l...))
		c, out := ran(t, oneNode("a"), impl.MaxLimit, events...)
		wantCluster(t, "the events of a script", c, p.c)
		shown := ""
		for i, line := range l {
			if strings.HasPrefix(line, "> ") {
				shown += strings.TrimSuffix(p.told[i], "\n")
			}
		}
		if got := strings.ReplaceAll(out, "\r", "$"); got != shown {
			t.Errorf("the events of %q tell %q; its lines tell %q", l, got, shown)
		}
		wantTellsOf(t, l, c)
		if len(c.Coming) > 0 {
			moving++
		}
		items += len(itemsIn(c))
		if t.Failed() {
			return
		}
	}
	if moving < 100 || items < 600 {
		t.Error(moving, items)
	}
}

// wantTellsOf puts questions behind a script and holds what is told against a cluster.
func wantTellsOf(t *testing.T, l []string, c impl.Cluster) {
	t.Helper()
	ring := slowNodesText(c.Nodes)
	if len(c.Coming) > 0 {
		ring += " > " + slowNodesText(c.Coming)
	}
	asked, want := []string{"ring", "lost"}, script(ring, fmt.Sprintf("lost %d", c.Lost))
	for i := range 13 {
		names, _ := impl.PlacesOf(c, twoDigits(i))
		asked, want = append(asked, "where "+twoDigits(i)), want+script(strings.Join(append([]string{"at"}, names...), " "))
	}
	with := script(append(slices.Clone(l), asked...)...)
	if len(with) > impl.MaxScript {
		return
	}
	if told := impl.RunCache(with); !strings.HasSuffix("\n"+told, "\n"+want) {
		t.Errorf("of %q is told %q; the cluster is %+v", with, told, c)
	}
}

// Lines that do not count are not among the events, and change nothing that is told of the others.
func TestLinesThatDoNotCount(t *testing.T) {
	wantEvents(t, script("ring", "> a", "lost", "begin b:1", "where k", "copy 5", "fly", "end", "", "tick 7", ">", "crash x", "copy 01"),
		bytesEvent("a\r\n"), beginEvent(oneNode("b")), copyEvent(5), endEvent(), tickEvent(7), crashEvent("x"))
	wantEvents(t, script("begin a:1", "begin a:1", "copy 1000000000", "copy 0", "end", "crash nobody", "tick 1000000000", "tick 1000000000", "> quit", "> behind it", "> "),
		beginEvent(oneNode("a")), beginEvent(oneNode("a")), copyEvent(impl.MaxNumber), copyEvent(0), endEvent(), crashEvent("nobody"), tickEvent(impl.MaxNow), tickEvent(impl.MaxNow), bytesEvent("quit\r\n"), bytesEvent("behind it\r\n"), bytesEvent("\r\n"))
	n := &numbers{}
	others := []string{"ring", "lost", "where 00", "where none", "", "fly", ">", "end ", "copy", "copy 01", "tick -1", "begin a", "crash ", "where ", "lost 1", "\r"}
	for range 300 {
		l := wildScript(n, 20)
		events, _ := impl.EventsOfText(script(l...))
		p, _ := slowPlays(script(l...))
		var with []string
		want := ""
		for i, line := range l {
			for range n.below(3) {
				other := pick(n, others)
				with = append(with, other)
				begun, _ := slowPlays(script(l[:i]...))
				want += begun.answer(other) + "\n"
			}
			with, want = append(with, line), want+p.told[i]
		}
		if len(with) <= impl.MaxLines && len(script(with...)) <= impl.MaxScript {
			wantEvents(t, script(with...), events...)
			wantCache(t, "others between", script(with...), want)
		}
		if t.Failed() {
			return
		}
	}
}
