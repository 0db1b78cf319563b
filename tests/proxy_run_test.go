package tests

import (
	"math"
	"slices"
	"strconv"
	"strings"
	"testing"

	"loop.example/g00170/impl"
)

// storeAll is the text that stores each key with itself as Data, and what goes out for it.
func storeAll(keys ...string) (string, string) {
	text := ""
	for _, k := range keys {
		text += lines("set "+k+" 0 0 "+strconv.Itoa(len(k)), k)
	}
	return text, strings.Repeat("STORED\r\n", len(keys))
}

// toldAll is what a get of keys tells that are stored by storeAll.
func toldAll(keys ...string) string {
	text := ""
	for _, k := range keys {
		text += lines("VALUE "+k+" 0 "+strconv.Itoa(len(k)), k)
	}
	return text + "END\r\n"
}

func TestNoEvents(t *testing.T) {
	for _, nodes := range [][]impl.Node{oneNode("a"), twoNodes(), eightNodes(impl.MaxWeight)} {
		for _, limit := range []int{0, 1, 1000, impl.MaxLimit} {
			for _, l := range [][]impl.Event{nil, {}, {bytesEvent("")}, {{}}} {
				c := wantOut(t, "no events", nodes, limit, "", l...)
				wantCluster(t, "no events", c, newCluster(t, nodes, limit))
				wantModel(t, "no events", "", 0, l...)
			}
		}
	}
}

func TestRunEventsOfWrongNodesAndLimits(t *testing.T) {
	events := [][]impl.Event{nil, {bytesEvent("version\r\n")}, {beginEvent(twoNodes()), tickEvent(1)}}
	for _, l := range events {
		for what, nodes := range notNodes() {
			wantNoRun(t, what, nodes, 1000, l)
		}
		for _, limit := range []int{-1, impl.MaxLimit + 1, math.MinInt, math.MaxInt} {
			wantNoRun(t, "the limit "+strconv.Itoa(limit), twoNodes(), limit, l)
		}
	}
	for _, limit := range []int{0, impl.MaxLimit} {
		c := wantOut(t, "the limit", twoNodes(), limit, "VERSION 1\r\n", events[1]...)
		if c.Limit != limit {
			t.Error(c)
		}
	}
}

func TestMostEvents(t *testing.T) {
	version := bytesEvent("version\r\n")
	for _, e := range []impl.Event{version, tickEvent(1), endEvent(), {}, bytesEvent("")} {
		l := slices.Repeat([]impl.Event{e}, impl.MaxEvents)
		out := ""
		if e.Bytes == version.Bytes {
			out = strings.Repeat("VERSION 1\r\n", impl.MaxEvents)
		}
		c := wantOut(t, "sixty", twoNodes(), 0, out, l...)
		wantModel(t, "sixty", out, 0, l...)
		if c.Now > 0 && c.Now != impl.MaxEvents {
			t.Error(c.Now)
		}
		for _, many := range []int{impl.MaxEvents + 1, 2 * impl.MaxEvents, 1000} {
			l := slices.Repeat([]impl.Event{e}, many)
			wantNoRun(t, "too many", twoNodes(), 0, l)
			wantNoModel(t, "too many", l)
		}
	}
}

// Every name, quiet and not, on a key that is there and on one that is not: told by the cluster and by the one store alike, with the keys at rest, while they move, and behind the move.
func TestEachNameThroughTheProxy(t *testing.T) {
	moves := [][]impl.Event{
		{bytesEvent("")},
		{beginEvent(laterNodes())},
		{beginEvent(laterNodes()), copyEvent(1)},
		{beginEvent(laterNodes()), copyEvent(mostCopied), endEvent()},
	}
	for _, k := range []string{"k1", "k2", "k3", "foo"} {
		text, _ := storeAll("k1", "k2", "k3", "foo")
		text += lines("set "+k+" 7 0 1", "5")
		stored := strings.Repeat("STORED\r\n", 5)
		for _, f := range eachName(k) {
			for _, move := range moves {
				l := append([]impl.Event{bytesEvent(text)}, move...)
				wantBoth(t, f.text, twoNodes(), stored+f.out+f.then, append(l, bytesEvent(f.text+"gets "+k+"\r\n"))...)
				if f.quiet != "" {
					wantBoth(t, f.quiet, twoNodes(), stored+f.then, append(l, bytesEvent(f.quiet+"gets "+k+"\r\n"))...)
				}
			}
		}
	}
}

// throughProxy is a command on the item {k, 7, "5", token 5}: what goes out for it, and to a gets behind it.
type throughProxy struct{ text, quiet, out, then string }

func eachName(k string) []throughProxy {
	with := func(flags, data, token string) string {
		return lines("VALUE "+k+" "+flags+" "+strconv.Itoa(len(data))+" "+token, data, "END")
	}
	same := with("7", "5", "5")
	storing := func(name, more, out, then string) throughProxy {
		line := name + " " + k + " 3 0 2" + more
		return throughProxy{lines(line, "67"), lines(line+" noreply", "67"), out, then}
	}
	plain := func(line, out, then string) throughProxy {
		return throughProxy{lines(line), lines(line + " noreply"), out, then}
	}
	loud := func(line, out, then string) throughProxy {
		return throughProxy{lines(line), "", out, then}
	}
	none := "no" + k
	return []throughProxy{
		loud("get "+k, lines("VALUE "+k+" 7 1", "5", "END"), same),
		loud("gets "+k+" "+none, same, same),
		loud("get "+none, "END\r\n", same),
		storing("set", "", "STORED\r\n", with("3", "67", "6")),
		storing("add", "", "NOT_STORED\r\n", same),
		storing("replace", "", "STORED\r\n", with("3", "67", "6")),
		storing("append", "", "STORED\r\n", with("7", "567", "6")),
		storing("prepend", "", "STORED\r\n", with("7", "675", "6")),
		storing("cas", " 5", "STORED\r\n", with("3", "67", "6")),
		storing("cas", " 4", "EXISTS\r\n", same),
		plain("incr "+k+" 9", "14\r\n", with("7", "14", "6")),
		plain("decr "+k+" 9", "0\r\n", with("7", "0", "6")),
		plain("touch "+k+" 9", "TOUCHED\r\n", same),
		plain("touch "+none+" 9", "NOT_FOUND\r\n", same),
		plain("incr "+none+" 9", "NOT_FOUND\r\n", same),
		plain("delete "+none, "NOT_FOUND\r\n", same),
		plain("delete "+k, "DELETED\r\n", "END\r\n"),
		loud("flush_all", "OK\r\n", "END\r\n"),
		loud("version", "VERSION 1\r\n", same),
		loud("quit", "", ""),
	}
}

// Each fault is told at its place among the answers, and what is behind it is read on.
func TestFaultsThroughTheProxy(t *testing.T) {
	for text, out := range map[string]string{
		"fly\r\n":               "ERROR\r\n",
		"\n":                    "ERROR\r\n",
		"get\r\n":               "CLIENT_ERROR bad\r\n",
		"quit noreply\r\n":      "CLIENT_ERROR bad\r\n",
		"set k 0 0 1\r\nxyz":    "CLIENT_ERROR bad\r\n",
		"set k 0 0 1001\r\n":    "CLIENT_ERROR bad\r\n",
		key(impl.MaxLine + 1):   "CLIENT_ERROR bad\r\n",
		"set k 0 0 01\r\nx\r\n": "CLIENT_ERROR bad\r\nERROR\r\n",
		"set k 0 0 101 noreply\r\n" + key(101) + "\r\n":                             "SERVER_ERROR large\r\n",
		"set k 0 0 1000\r\n" + strings.Repeat("\n", 1000) + "\r\n":                  "SERVER_ERROR large\r\n",
		"set k 0 0 99\r\n" + key(99) + "\r\nappend k 0 0 2\r\nxy\r\ndelete k\r\n":   "STORED\r\nSERVER_ERROR large\r\nDELETED\r\n",
		"set k 0 0 1 noreply\r\nx\r\nincr k 1\r\ndelete k noreply\r\ndecr k 1\r\n":  "CLIENT_ERROR bad\r\nNOT_FOUND\r\n",
		"set k 0 0 18\r\n999999999999999999\r\nincr k 1\r\nincr k 0\r\nflush_all\n": "STORED\r\nCLIENT_ERROR bad\r\n999999999999999999\r\nOK\r\n",
	} {
		all := "version\r\n" + text + "get k\r\n"
		want := "VERSION 1\r\n" + out + "END\r\n"
		wantBoth(t, "in one piece", twoNodes(), want, bytesEvent(all))
		for at := 0; at <= len(all); at += 1 + len(all)/60 {
			wantBoth(t, "with a move between", twoNodes(), want, bytesEvent(all[:at]), beginEvent(laterNodes()), tickEvent(1), bytesEvent(all[at:]))
		}
	}
}

// What can't be a line any more is told at once, and not before.
func TestALineThatCanNotBeOne(t *testing.T) {
	long := key(impl.MaxLine)
	wantBoth(t, "as long as may be", twoNodes(), "", bytesEvent(long))
	wantBoth(t, "and its end", twoNodes(), "ERROR\r\n", bytesEvent(long), bytesEvent("\n"))
	wantBoth(t, "one more", twoNodes(), "CLIENT_ERROR bad\r\n", bytesEvent(long), bytesEvent("k"))
	wantBoth(t, "one more, then a line", twoNodes(), "CLIENT_ERROR bad\r\nVERSION 1\r\n", bytesEvent(long), tickEvent(1), bytesEvent("k"), bytesEvent("version\r\n"))
	wantBoth(t, "two of them", twoNodes(), "CLIENT_ERROR bad\r\nCLIENT_ERROR bad\r\n", bytesEvent(long+long), bytesEvent("kk"))
	get := "get" + strings.Repeat(" "+key(30), 10)
	wantBoth(t, "the longest get", twoNodes(), "CLIENT_ERROR bad\r\n", bytesEvent(get))
}

// What is never whole does nothing, and nothing goes out for it.
func TestACommandThatIsNeverWhole(t *testing.T) {
	for _, text := range []string{"get k", "get k\r", "set k 0 0 3\r\n", "set k 0 0 3\r\nabc", "set k 0 0 3\r\nabc\r", "set k 0 0 1000\r\n" + key(1001), "quit", "\r"} {
		for at := range len(text) + 1 {
			l := []impl.Event{bytesEvent("version\r\n" + text[:at]), beginEvent(laterNodes()), endEvent(), tickEvent(3), bytesEvent(text[at:])}
			c := wantOut(t, text, twoNodes(), 1000, "VERSION 1\r\n", l...)
			wantModel(t, text, "VERSION 1\r\n", 0, l...)
			want := newCluster(t, laterNodes(), 1000)
			want.Now = 3
			wantCluster(t, text, c, want)
		}
	}
}

// Behind a quit no bytes are looked at, in the same piece or in later ones; moves, ticks and crashes go on.
func TestNothingIsReadBehindAQuit(t *testing.T) {
	text, stored := storeAll("k1", "k2", "k3", "foo")
	for _, behind := range []string{"", "get k1\r\n", "flush_all\r\n", "quit\r\n", "fly\r\n", key(1000), "set k1 0 0 1\r\nx\r\n"} {
		for _, quit := range []string{"quit\r\n", "quit\n"} {
			at, far := pick(&numbers{state: uint64(len(behind))}, []int{0, 1, len(quit) - 1, len(quit)}), len(behind)/2
			l := []impl.Event{
				bytesEvent(text + quit[:at]), tickEvent(2), bytesEvent(quit[at:] + behind), bytesEvent(behind[:far]), beginEvent(laterNodes()),
				bytesEvent(behind[far:]), copyEvent(mostCopied), bytesEvent("get k1\r\n"), endEvent(), tickEvent(5), bytesEvent("delete k1\r\n"),
			}
			c := wantOut(t, "quit", twoNodes(), 1000, stored, l...)
			wantModel(t, "quit", stored, 0, l...)
			if c.Now != 7 || !slices.Equal(c.Nodes, laterNodes()) || len(itemsIn(c)) != 4 || c.Next != 5 {
				t.Errorf("behind the quit the cluster is %+v", c)
			}
			c, _ = ran(t, twoNodes(), 1000, append(l, crashEvent("b"), crashEvent("c"))...)
			if len(itemsIn(c)) != 0 {
				t.Errorf("behind the crashes the cluster is %+v", c)
			}
		}
	}
	wantBoth(t, "a quit that is Data", twoNodes(), "STORED\r\nVERSION 1\r\n", bytesEvent("set k 0 0 6\r\nquit\r\n\r\nversion\r\n"))
}

// Each event does what the cluster's function of its kind does.
func TestEventsAreTheStepsOfTheCluster(t *testing.T) {
	text, stored := storeAll("k1", "k2", "k3", "foo")
	l := []impl.Event{bytesEvent(text)}
	c := newCluster(t, twoNodes(), 1000)
	for _, k := range []string{"k1", "k2", "k3", "foo"} {
		c, _ = doneIn(t, c, impl.Cmd{Name: "set", Keys: []string{k}, Data: k})
	}
	step := func(e impl.Event, then impl.Cluster) {
		t.Helper()
		l, c = append(l, e), then
		wantCluster(t, "the kind "+strconv.Itoa(e.Kind), wantOut(t, "a step", twoNodes(), 1000, stored, l...), c)
		wantModel(t, "a step", stored, 0, l...)
	}
	step(bytesEvent(""), c)
	step(tickEvent(4), ticked(t, c, 4))
	step(beginEvent(laterNodes()), begun(t, c, laterNodes()))
	some, _ := copied(t, c, 1)
	step(copyEvent(1), some)
	none, _ := crashed(t, c, "a")
	step(crashEvent("a"), none)
	all, _ := copied(t, c, mostCopied)
	step(copyEvent(mostCopied), all)
	step(endEvent(), ended(t, c))
	none, _ = crashed(t, c, "c")
	step(crashEvent("c"), none)
	step(beginEvent(oneNode("b")), begun(t, c, oneNode("b")))
	step(endEvent(), ended(t, c))
	step(tickEvent(impl.MaxNow), ticked(t, c, impl.MaxNow))
	step(tickEvent(impl.MaxNow), c)
}

// What may not be does nothing: the cluster and what goes out are as without it.
func TestEventsThatMayNotBe(t *testing.T) {
	text, stored := storeAll("k1", "k2", "k3", "foo")
	rest := []impl.Event{bytesEvent(text), tickEvent(3)}
	moving := append(slices.Clone(rest), beginEvent(laterNodes()))
	never := map[string]impl.Event{
		"another Kind": {Kind: 7, Bytes: "version\r\n", N: 1, Nodes: oneNode("a")}, "the Kind 0": {Bytes: "version\r\n", N: 1}, "the Kind -1": {Kind: -1},
		"the least Kind": {Kind: math.MinInt}, "the greatest Kind": {Kind: math.MaxInt},
		"a copy of -1": copyEvent(-1), "a copy of 101": copyEvent(mostCopied + 1), "the least copy": copyEvent(math.MinInt), "the greatest copy": copyEvent(math.MaxInt),
		"a tick of -1": tickEvent(-1), "a tick too long": tickEvent(impl.MaxNow + 1), "the least tick": tickEvent(math.MinInt), "the greatest tick": tickEvent(math.MaxInt),
		"a crash of nobody": crashEvent("nobody"), "a crash of no name": crashEvent(""), "a crash of A": crashEvent("A"), "a crash of a and more": crashEvent("a "),
		"an end with keys left, or of no move": endEvent(), "a begin to the same nodes": beginEvent(twoNodes()),
	}
	for what, nodes := range notNodes() {
		never["a begin to "+what] = beginEvent(nodes)
	}
	for what, e := range never {
		wantNothingDone(t, what, rest, e, stored)
		wantNothingDone(t, what+", while it moves", moving, e, stored)
	}
	for _, nodes := range [][]impl.Node{laterNodes(), twoNodes(), eightNodes(1)} {
		wantNothingDone(t, "a begin while it moves", moving, beginEvent(nodes), stored)
	}
	for _, many := range []int{0, 1, mostCopied} {
		wantNothingDone(t, "a copy where nothing moves", rest, copyEvent(many), stored)
	}
	wantNothingDone(t, "a crash of one who is not there yet", rest, crashEvent("c"), stored)
	moved := append(slices.Clone(moving), copyEvent(mostCopied), endEvent())
	wantNothingDone(t, "a crash of one who has gone", moved, crashEvent("a"), stored)
	wantNothingDone(t, "a second end", moved, endEvent(), stored)
}

func wantNothingDone(t *testing.T, what string, l []impl.Event, e impl.Event, out string) {
	t.Helper()
	without := wantOut(t, what, twoNodes(), 1000, out, l...)
	with := append(slices.Clone(l), e)
	wantCluster(t, what, wantOut(t, what, twoNodes(), 1000, out, with...), without)
	wantModel(t, what, out, 0, with...)
	behind := append(with, bytesEvent("get foo\r\n"), beginEvent(oneNode("z")), copyEvent(mostCopied), endEvent())
	_, later := ran(t, twoNodes(), 1000, append(slices.Clone(l), behind[len(with):]...)...)
	wantOut(t, what, twoNodes(), 1000, later, behind...)
}

// Of an event only the fields of its kind are looked at.
func TestOtherFieldsOfEvents(t *testing.T) {
	text, stored := storeAll("k1", "k2")
	l := []impl.Event{bytesEvent(text), beginEvent(laterNodes()), copyEvent(2), tickEvent(5), endEvent(), crashEvent("c"), bytesEvent("get k1 k2\r\n")}
	c, out := ran(t, twoNodes(), 1000, l...)
	full := []impl.Event{
		{Kind: impl.EventBytes, Bytes: text, N: -1, Nodes: oneNode("x")}, {Kind: impl.EventBegin, Bytes: "quit\r\n", N: 101, Nodes: laterNodes()},
		{Kind: impl.EventCopy, Bytes: "a", N: 2, Nodes: oneNode("")}, {Kind: impl.EventTick, Bytes: "flush_all\r\n", N: 5, Nodes: oneNode("y")},
		{Kind: impl.EventEnd, Bytes: "b", N: -7, Nodes: twoNodes()}, {Kind: impl.EventCrash, Bytes: "c", N: 9, Nodes: twoNodes()},
		{Kind: impl.EventBytes, Bytes: "get k1 k2\r\n", N: 3},
	}
	wantCluster(t, "more fields", wantOut(t, "more fields", twoNodes(), 1000, out, full...), c)
	wantModel(t, "more fields", stored+toldAll("k1", "k2"), 0, full...)
}

// A crash takes all that stood there, and nothing elsewhere; it is not counted as lost.
func TestCrashesThroughTheProxy(t *testing.T) {
	text, stored := storeAll("k1", "k2", "k3", "foo")
	ask := bytesEvent("get k1 k2 k3 foo\r\n")
	for _, f := range []struct {
		told  []string
		crash []impl.Event
	}{
		{[]string{"k1", "k2", "k3", "foo"}, nil},
		{[]string{"k2", "foo"}, []impl.Event{crashEvent("a")}},
		{[]string{"k1", "k3"}, []impl.Event{crashEvent("b")}},
		{nil, []impl.Event{crashEvent("b"), crashEvent("a")}},
		{[]string{"k1", "k2", "k3", "foo"}, []impl.Event{crashEvent("c")}},
		{[]string{"k2", "foo"}, []impl.Event{crashEvent("a"), beginEvent(laterNodes()), copyEvent(mostCopied), endEvent()}},
		{nil, []impl.Event{beginEvent(oneNode("c")), copyEvent(mostCopied), crashEvent("c"), endEvent()}},
		{[]string{"k1", "k2", "k3", "foo"}, []impl.Event{beginEvent(oneNode("c")), copyEvent(mostCopied), crashEvent("a"), crashEvent("b"), endEvent()}},
		{[]string{"k1", "k3"}, []impl.Event{beginEvent(oneNode("c")), copyEvent(2), crashEvent("a"), crashEvent("b")}},
	} {
		l := append(append([]impl.Event{bytesEvent(text)}, f.crash...), ask)
		c := wantOut(t, "crashes", twoNodes(), impl.MaxLimit, stored+toldAll(f.told...), l...)
		if c.Lost != 0 || c.Next != 5 || len(itemsIn(c)) != len(f.told) {
			t.Errorf("behind the crashes the cluster is %+v", c)
		}
		wantModel(t, "crashes", stored+toldAll("k1", "k2", "k3", "foo"), 0, l...)
	}
	again := lines("set k1 0 0 1", "x", "gets k1")
	wantOut(t, "stored again", twoNodes(), 1000, stored+"STORED\r\nVALUE k1 0 1 5\r\nx\r\nEND\r\n", bytesEvent(text), crashEvent("a"), bytesEvent(again))
}

// With little room a cluster forgets what the one store still has, and counts it as lost; also what a place had lost that is there no more.
func TestLittleRoomThroughTheProxy(t *testing.T) {
	text, stored := storeAll("k1", "k2", "k3", "foo")
	ask := bytesEvent("get k1 k2 k3 foo\r\n")
	l := []impl.Event{bytesEvent(text), ask}
	for _, f := range []struct {
		limit, lost int
		out         string
	}{
		{impl.MaxLimit, 0, stored + toldAll("k1", "k2", "k3", "foo")},
		{30, 0, stored + toldAll("k1", "k2", "k3", "foo")},
		{29, 1, stored + toldAll("k1", "k3", "foo")},
		{28, 1, stored + toldAll("k1", "k3", "foo")},
		{27, 2, stored + toldAll("k3", "foo")},
		{16, 2, stored + toldAll("k3", "foo")},
		{15, 1, strings.Repeat("STORED\r\n", 3) + "SERVER_ERROR full\r\n" + toldAll("k2", "k3")},
		{14, 1, strings.Repeat("STORED\r\n", 3) + "SERVER_ERROR full\r\n" + toldAll("k2", "k3")},
		{13, 0, strings.Repeat("SERVER_ERROR full\r\n", 4) + "END\r\n"},
		{0, 0, strings.Repeat("SERVER_ERROR full\r\n", 4) + "END\r\n"},
	} {
		if c := wantOut(t, strconv.Itoa(f.limit), twoNodes(), f.limit, f.out, l...); c.Lost != f.lost {
			t.Errorf("with %d of room %d are lost; want %d", f.limit, c.Lost, f.lost)
		}
	}
	c := wantOut(t, "to one node", twoNodes(), 30, stored+toldAll("k2", "foo"), bytesEvent(text), beginEvent(oneNode("c")), copyEvent(mostCopied), endEvent(), ask)
	if c.Lost != 2 || len(c.Places) != 1 {
		t.Errorf("moved to one node the cluster is %+v", c)
	}
	c = wantOut(t, "lost at one who goes", twoNodes(), 14, strings.Repeat("STORED\r\n", 3)+"SERVER_ERROR full\r\n"+toldAll("k3"), bytesEvent(text), beginEvent(oneNode("b")), copyEvent(mostCopied), endEvent(), ask)
	if c.Lost != 2 || len(c.Places) != 1 {
		t.Errorf("moved to b the cluster is %+v", c)
	}
	wantModel(t, "one store has room", stored+toldAll("k1", "k2", "k3", "foo"), 0, l...)
}

// A command that is cut by a move is done where its key belongs then, also if it came in many pieces.
func TestMovesBetweenTheBytesOfACommand(t *testing.T) {
	text, stored := storeAll("k1", "k2", "k3", "foo")
	more := lines("append k1 0 0 2", "\r\n", "gets foo k1 k2", "cas k3 9 0 1 3", "x", "incr k2 1", "gets k3 k1")
	want := stored + "STORED\r\n" + lines("VALUE foo 0 3 4", "foo", "VALUE k1 0 4 5", "k1\r\n", "VALUE k2 0 2 2", "k2", "END") + "STORED\r\nCLIENT_ERROR bad\r\n" + lines("VALUE k3 9 1 6", "x", "VALUE k1 0 4 5", "k1\r\n", "END")
	for i := range len(more) + 1 {
		for j := i; j <= len(more); j++ {
			l := cut(more, []int{i, i, j}, []impl.Event{beginEvent(laterNodes()), copyEvent(1), endEvent()})
			wantBoth(t, "cut by a move", twoNodes(), want, append([]impl.Event{bytesEvent(text)}, l...)...)
		}
	}
}

// Items get old by ticks, whatever moves, and in the one store at the same tick.
func TestOldThroughTheProxy(t *testing.T) {
	set := lines("set k1 0 5 1", "a", "set k2 0 6 1", "b", "set k3 0 0 1", "c", "set foo 0 1000000000 1", "d")
	stored := strings.Repeat("STORED\r\n", 4)
	value := func(k, data string) string { return lines("VALUE "+k+" 0 1", data) }
	all := []string{value("k1", "a"), value("k2", "b"), value("k3", "c"), value("foo", "d")}
	for _, f := range []struct {
		ticks []int
		told  []string
	}{
		{nil, all}, {[]int{0}, all}, {[]int{4}, all}, {[]int{4, -1, 0}, all}, {[]int{5}, all[1:]}, {[]int{4, 1}, all[1:]}, {[]int{6}, all[2:]}, {[]int{1, 1, 1, 1, 1, 1}, all[2:]},
		{[]int{impl.MaxNow - 1}, all[2:]}, {[]int{impl.MaxNow}, all[2:3]}, {[]int{4, impl.MaxNow}, all[2:3]}, {[]int{impl.MaxNow, impl.MaxNow}, all[2:3]},
		{[]int{impl.MaxNow + 1}, all}, {[]int{4, impl.MaxNow + 1}, all}, {[]int{impl.MaxNow - 1, 1}, all[2:3]}, {[]int{-5}, all}, {[]int{math.MaxInt, math.MaxInt}, all},
	} {
		l := []impl.Event{bytesEvent(set), beginEvent(laterNodes())}
		for _, by := range f.ticks {
			l = append(l, copyEvent(1), tickEvent(by))
		}
		wantBoth(t, "ticks", twoNodes(), stored+strings.Join(f.told, "")+"END\r\n", append(l, bytesEvent("get k1 k2 k3 foo\r\n"))...)
	}
	late := lines("set k1 0 1 1", "a", "touch k1 5", "get k1")
	for _, by := range []int{0, 1, 5, 1000, impl.MaxNow} {
		wantBoth(t, "time stands still", twoNodes(), "STORED\r\nTOUCHED\r\n"+all[0]+"END\r\n"+all[0]+"END\r\n",
			tickEvent(impl.MaxNow), bytesEvent(late), tickEvent(by), bytesEvent("get k1\r\n"))
	}
}
