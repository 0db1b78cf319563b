package tests

import (
	"math"
	"slices"
	"strings"
	"testing"

	"loop.example/g00170/impl"
)

// anyEvent has drawn fields of any kind, most of them wrong.
func anyEvent(n *numbers) impl.Event {
	return impl.Event{
		Kind:  pick(n, []int{math.MinInt, -1, 0, 1, 1, 1, 2, 2, 3, 3, 4, 5, 6, 7, math.MaxInt}),
		Bytes: pick(n, []string{"", "a", "b", "get 00\r\n", "set 00 0 5 2\r\nxy\r\n", "set 01 1 0 1 noreply\r\nx", "\r\n", "quit\r", "\n", "\xff\x00", wildText(n), wildStream(n, 3)}),
		N:     pick(n, []int{math.MinInt, -impl.MaxNow, -1, 0, 1, 5, 100, 101, impl.MaxNow - 5, impl.MaxNow, impl.MaxNow + 1, math.MaxInt}),
		Nodes: pick(n, [][]impl.Node{nil, {}, twoNodes(), laterNodes(), oneNode("a"), oneNode(""), eightNodes(2), eightNodes(6), brokenNodes(n)}),
	}
}

// Promise 10: whatever is given, there is an answer: that of the second telling, or the zero answer where it is not as said.
func TestAnyEvents(t *testing.T) {
	n := &numbers{}
	good, bad := 0, 0
	for range 1500 {
		nodes := pick(n, [][]impl.Node{twoNodes(), laterNodes(), eightNodes(1), nil, brokenNodes(n)})
		limit := pick(n, []int{math.MinInt, -1, 0, 13, 60, 300, impl.MaxLimit, impl.MaxLimit + 1, math.MaxInt})
		var l []impl.Event
		for range pick(n, []int{0, 1, 5, 20, impl.MaxEvents, impl.MaxEvents + 1}) {
			l = append(l, anyEvent(n))
		}
		before, given := copyOfEvents(l), copyOfNodes(nodes)
		few := len(l) <= impl.MaxEvents
		if few {
			out, lost := slowModel(l)
			wantModel(t, "any events", out, lost, l...)
		} else {
			wantNoModel(t, "any events", l)
		}
		if few && slowGoodNodes(nodes) && limit >= 0 && limit <= impl.MaxLimit {
			good++
			want, out := slowRun(nodes, limit, l)
			wantCluster(t, "any events", wantOut(t, "any events", nodes, limit, out, l...), want)
		} else {
			bad++
			wantNoRun(t, "any events", nodes, limit, l)
		}
		if !sameEvents(l, before) || !slices.Equal(nodes, given) {
			t.Fatalf("the arguments became %v and %+v", nodes, l)
		}
		if t.Failed() {
			return
		}
	}
	if good < 200 || bad < 200 {
		t.Error(good, bad)
	}
}

// Promise 10: any bytes are answers or not, as the second telling says.
func TestAnswersInAnyBytes(t *testing.T) {
	n := &numbers{}
	for range 5000 {
		b := make([]byte, n.below(200))
		for i := range b {
			b[i] = pick(n, []byte("VALUEND 0123\r\n\r\n\xff"))
		}
		want, ok := slowAnswers(string(b))
		got, is := impl.AnswersIn(string(b))
		if !slices.Equal(got, want) || is != ok {
			t.Fatalf("AnswersIn(%q) = %q, %v; want %q, %v", b, got, is, want, ok)
		}
	}
}

// telling are events of each kind, with nodes that stay and that come at the end.
func telling() []impl.Event {
	text, _ := storeAll("k1", "k2", "k3", "foo")
	return []impl.Event{
		bytesEvent(text), tickEvent(1), beginEvent(laterNodes()), copyEvent(mostCopied), bytesEvent("gets k1 k2 k3 foo\r\nfly\r\nappend k1 0 0 2\r\nxy\r\nprepend k2 0 0 0\r\n\r\n"),
		endEvent(), beginEvent(twoNodes()), copyEvent(1), crashEvent("c"), bytesEvent("get k1\r\nset new 0 0 3\r\nnew\r\nse"),
	}
}

// Promise 10: what is answered lies in no argument, and no two lists of it in one another; the arguments stay.
func TestEventAnswersAreNew(t *testing.T) {
	for many := range len(telling()) + 1 {
		nodes, l := copyOfNodes(twoNodes()), copyOfEvents(telling()[:many])
		before := copyOfEvents(l)
		c, out := ran(t, nodes, 1000, l...)
		one, _, _ := impl.ModelEvents(l)
		given := impl.Cluster{Nodes: nodes}
		for _, e := range l {
			if sharesOne(append(clusterTexts(c), out, one), []string{e.Bytes}) {
				t.Errorf("behind %d events what is answered lies in %q", many, e.Bytes)
			}
			wantNewMemory(t, c, given, e.Nodes)
		}
		if sharesOne([]string{out, one}, append(clusterTexts(c), namesOf(nodes)...)) {
			t.Errorf("behind %d events the text lies in the cluster", many)
		}
		if !sameEvents(l, before) || !slices.Equal(nodes, twoNodes()) {
			t.Errorf("the arguments became %v and %+v", nodes, l)
		}
	}
}

// What was answered stays as it is, whatever becomes of what was given.
func TestEventAnswersAreTheirOwn(t *testing.T) {
	nodes, l := copyOfNodes(twoNodes()), copyOfEvents(telling())
	c, out := ran(t, nodes, 1000, l...)
	kept := copyOfCluster(c)
	for i := range nodes {
		nodes[i] = impl.Node{Name: "x", Weight: 9}
	}
	for i := range l {
		for j := range l[i].Nodes {
			l[i].Nodes[j] = impl.Node{Name: "y", Weight: 8}
		}
		l[i] = impl.Event{}
	}
	wantCluster(t, "the answer", c, kept)
	for i := range c.Nodes {
		c.Nodes[i].Name = "z"
	}
	for i := range c.Places {
		clear(c.Places[i].Store.Items)
	}
	wantCluster(t, "told again", wantOut(t, "told again", twoNodes(), 1000, out, telling()...), kept)
}

func TestAnswersInAreNew(t *testing.T) {
	s := strings.Clone("STORED\r\nVALUE k 0 3\r\nabc\r\nEND\r\n12\r\nEND\r\nERROR\r\n")
	l, ok := impl.AnswersIn(s)
	if len(l) != 5 || !ok || sharesOne(l, []string{s}) {
		t.Errorf("AnswersIn = %q, %v, or it lies in its argument", l, ok)
	}
	clear(l)
	wantAnswers(t, s, "STORED\r\n", "VALUE k 0 3\r\nabc\r\nEND\r\n", "12\r\n", "END\r\n", "ERROR\r\n")
}

// What lies behind a list's length is neither read, nor written, nor handed out.
func TestBehindTheListsOfEvents(t *testing.T) {
	node := impl.Node{Name: "zz", Weight: 1}
	l := telling()
	for i := range l {
		l[i].Nodes = append(slices.Clone(l[i].Nodes), node, node)[:len(l[i].Nodes)]
	}
	more := append(slices.Clone(l), bytesEvent("t k 0 0 0\r\n\r\nflush_all\r\n"), tickEvent(5))
	nodes := append(twoNodes(), node, node)
	c, out := ran(t, twoNodes(), 1000, telling()...)
	then := wantOut(t, "with more behind", nodes[:2], 1000, out, more[:len(l)]...)
	wantCluster(t, "with more behind", then, c)
	if slices.ContainsFunc(clusterTexts(whole(then)), func(s string) bool { return s == "zz" }) {
		t.Errorf("what lies behind is handed out in %+v", then)
	}
	if !slices.Equal(nodes, append(twoNodes(), node, node)) || !sameEvents(more[len(l):], []impl.Event{bytesEvent("t k 0 0 0\r\n\r\nflush_all\r\n"), tickEvent(5)}) {
		t.Errorf("behind the lists stand %v and %+v", nodes, more[len(l):])
	}
	for _, e := range l {
		if behind := e.Nodes[:cap(e.Nodes)][len(e.Nodes):]; behind[0] != node || behind[1] != node {
			t.Errorf("behind the nodes of an event stand %v", behind)
		}
	}
	full := slices.Repeat([]impl.Event{bytesEvent("version\r\n")}, impl.MaxEvents+1)
	wantOut(t, "sixty of more", twoNodes(), 0, strings.Repeat("VERSION 1\r\n", impl.MaxEvents), full[:impl.MaxEvents]...)
}

// Promise 10: what is far greater than needed gets an answer too, and soon.
func TestHugeEvents(t *testing.T) {
	const many = 20000
	text := lines("set k1 0 0 100", key(100)) + strings.Repeat("get k1 k2 k3\r\n", many)
	want := "STORED\r\n" + strings.Repeat(lines("VALUE k1 0 100", key(100), "END"), many)
	wantBoth(t, "many commands", eightNodes(impl.MaxWeight), want, bytesEvent(text), beginEvent(oneNode("a")))
	wantBoth(t, "many faults", twoNodes(), strings.Repeat("ERROR\r\n", many), bytesEvent(strings.Repeat("\n", many)))
	wantBoth(t, "many long lines", twoNodes(), strings.Repeat("CLIENT_ERROR bad\r\n", many), bytesEvent(strings.Repeat(key(impl.MaxLine+1), many)))
	wantNoRun(t, "many nodes", slices.Repeat(twoNodes(), many), 10, nil)
	wantNoRun(t, "many events", twoNodes(), 10, make([]impl.Event, 1<<20))
	wantNoModel(t, "many events", make([]impl.Event, 1<<20))
	wantBoth(t, "many coming", twoNodes(), "", beginEvent(slices.Repeat(twoNodes(), many)), crashEvent(key(1<<20)))
	wantNoAnswers(t, "no answers", key(1<<20))
	wantNoAnswers(t, "no answers", "VALUE "+key(1<<20)+"\r\n")
	wantNoAnswers(t, "no answers", strings.Repeat("9", 1<<20)+"\r\n")
	wantNoAnswers(t, "no answers", strings.Repeat("VALUE k 0 1\r\nx\r\n", 1<<16)+"END\r\n")
	wantWhole(t, strings.Repeat("END\r\nVALUE k 0 1\r\nx\r\nEND\r\nERROR\r\n", 1<<14))
}

// Lost goes to its most and no further, over all that places have lost, also those that went.
func TestLostAtItsMostThroughTheProxy(t *testing.T) {
	pair := lines("set k1 0 0 0 noreply", "", "set k3 0 0 0 noreply", "")
	half := strings.Repeat(pair, mostLost/4+100)
	l := []impl.Event{bytesEvent(half), beginEvent(oneNode("c")), copyEvent(1), endEvent()}
	c := wantOut(t, "half of it", oneNode("a"), 12, "", l...)
	if c.Lost != mostLost/2+199 {
		t.Error(c.Lost)
	}
	c = wantOut(t, "all of it", oneNode("a"), 12, "", append(l, bytesEvent(half))...)
	if c.Lost != mostLost {
		t.Error(c.Lost)
	}
}
