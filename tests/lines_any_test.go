package tests

import (
	"slices"
	"strings"
	"testing"

	"loop.example/g00170/impl"
)

// spoiltScript is a text in which bytes were put, taken or changed.
func spoiltScript(n *numbers, text string) string {
	for range 1 + n.below(4) {
		at := n.below(len(text) + 1)
		to := min(len(text), at+n.below(3))
		text = text[:at] + pick(n, []string{"", " ", "\n", "\n\n", "\r", "> ", ">", "0", "1", "a:1", "end\n", "ring\n", "\x00", "\xff", "x"}) + text[to:]
	}
	return text
}

// Promise 10: any text gets an answer: that of the second telling, or the zero answer where it is no script.
func TestAnyScript(t *testing.T) {
	n := &numbers{}
	good, bad := 0, 0
	for range 3000 {
		text := script(wildScript(n, pick(n, []int{0, 1, 5, 30, impl.MaxLines}))...)
		if n.below(4) > 0 {
			text = spoiltScript(n, text)
		}
		if n.below(10) == 0 {
			text += pick(n, []string{"x", strings.Repeat("\n", impl.MaxLines), strings.Repeat("ring\n", 30), strings.Repeat("x", 1000) + "\n"})
		}
		if p, ok := slowPlays(text); ok {
			good++
			wantCache(t, "any text", text, strings.Join(p.told, ""))
			wantEvents(t, text, p.events...)
		} else {
			bad++
			wantNoScript(t, "any text", text)
		}
		if t.Failed() {
			return
		}
	}
	if good < 500 || bad < 500 {
		t.Error(good, bad)
	}
}

// Promise 10: any bytes too.
func TestScriptsOfAnyBytes(t *testing.T) {
	n := &numbers{}
	for range 3000 {
		b := make([]byte, n.below(400))
		for i := range b {
			b[i] = pick(n, []byte("> \n\n\n\r:01ab\x00\xff"))
		}
		text := string(b) + pick(n, []string{"", "\n"})
		if p, ok := slowPlays(text); ok {
			wantCache(t, "any bytes", text, strings.Join(p.told, ""))
			wantEvents(t, text, p.events...)
		} else {
			wantNoScript(t, "any bytes", text)
		}
		want, good := slowNodes(text)
		if l, ok := impl.ReadNodes(text); !slices.Equal(l, want) || ok != good {
			t.Errorf("ReadNodes(%q) = %v, %v", text, l, ok)
		}
		if t.Failed() {
			return
		}
	}
}

// Promise 10: NodesText at any nodes; they stay as they were.
func TestNodesTextOfAnyNodes(t *testing.T) {
	n := &numbers{}
	good, bad := 0, 0
	for range 5000 {
		l := brokenNodes(n)
		before := copyOfNodes(l)
		if slowGoodNodes(l) {
			good++
			wantNodesBack(t, l, slowNodesText(l))
		} else {
			bad++
			wantNoNodesText(t, "any nodes", l)
		}
		if !slices.Equal(l, before) {
			t.Fatalf("the nodes became %v", l)
		}
		if t.Failed() {
			return
		}
	}
	if good < 1000 || bad < 1000 {
		t.Error(good, bad)
	}
}

// eventTexts are all texts of events, to be asked whose memory they are in.
func eventTexts(l []impl.Event) []string {
	var out []string
	for _, e := range l {
		out = append(append(out, e.Bytes), namesOf(e.Nodes)...)
	}
	return out
}

// Promise 10: what is answered lies in no argument, and no two lists of it in one another.
func TestLineAnswersAreNew(t *testing.T) {
	text := strings.Clone(script("> set k 0 0 3", "> abc", "> get k", "begin b:1 c:2", "copy 5", "where k", "ring", "end", "begin a:1 b:1", "begin a:1 b:1", "crash b", "crash b", "tick 3", "lost", "fly"))
	told := impl.RunCache(text)
	events, _ := impl.EventsOfText(text)
	again, _ := impl.EventsOfText(text)
	if len(events) != 11 || sharesOne(append(eventTexts(events), told), []string{text}) || sameList(events, again) {
		t.Errorf("%q or %+v lies in the text", told, events)
	}
	for i, e := range events {
		for _, other := range append(slices.Clone(events[:i]), again...) {
			if sameList(e.Nodes, other.Nodes) || sharesOne(append(namesOf(e.Nodes), e.Bytes), append(namesOf(other.Nodes), other.Bytes)) {
				t.Errorf("%+v and %+v share their memory", e, other)
			}
		}
	}
	for i := range events {
		clear(events[i].Nodes)
		events[i] = impl.Event{}
	}
	wantEvents(t, text, again...)
	wantCache(t, "told again", text, told)
	for i := range again {
		for _, node := range again[i].Nodes[len(again[i].Nodes):cap(again[i].Nodes)] {
			if node != (impl.Node{}) {
				t.Errorf("behind the nodes stands %v", node)
			}
		}
	}
}

func TestNodesAndTextsAreNew(t *testing.T) {
	for _, nodes := range [][]impl.Node{oneNode("a"), twoNodes(), eightNodes(5)} {
		nodes = copyOfNodes(nodes)
		text, _ := impl.NodesText(nodes)
		if sharesOne([]string{text}, namesOf(nodes)) {
			t.Errorf("%q lies in the nodes", text)
		}
		read, _ := impl.ReadNodes(text)
		again, _ := impl.ReadNodes(text)
		if sharesOne(namesOf(read), append(namesOf(again), text)) || sameList(read, again) {
			t.Errorf("%v lie in their text", read)
		}
	}
	l := append(twoNodes(), impl.Node{Name: "zz", Weight: 1}, impl.Node{Name: "not good", Weight: -1})
	before := copyOfNodes(l)
	for many, want := range map[int]string{1: "a:1", 2: "a:1 b:2", 3: "a:1 b:2 zz:1"} {
		wantNodesBack(t, l[:many], want)
	}
	wantNoNodesText(t, "none of four", l[:0])
	if !slices.Equal(l, before) {
		t.Errorf("the nodes became %v", l)
	}
}

// Promise 10: what is far greater than needed gets an answer too, and soon.
func TestHugeTexts(t *testing.T) {
	const many = 1 << 20
	for _, sign := range []string{"x", "\n", " ", ":", "> version\n", "a:1 ", "ring\n", "\r", "0"} {
		wantNoScript(t, "a huge text", strings.Repeat(sign, many))
		wantNoNodesIn(t, "a huge text", strings.Repeat(sign, many))
	}
	wantNoNodesIn(t, "a huge name", key(many)+":1")
	wantNoNodesIn(t, "a huge weight", "a:"+strings.Repeat("1", many))
	wantNoNodesText(t, "many nodes", slices.Repeat(twoNodes(), many))
	wantNoNodesText(t, "a huge name", oneNode(key(many)))
	get := "> get" + strings.Repeat(" k", impl.MaxKeys)
	l := append([]string{"> set k 0 0 100", "> " + key(impl.MaxValue)}, slices.Repeat([]string{get}, impl.MaxLines-2)...)
	wantCache(t, "much that goes out", script(l...), "\nSTORED$\n\n"+strings.Repeat(strings.Repeat("VALUE k 0 100$\n"+key(impl.MaxValue)+"$\n", impl.MaxKeys)+"END$\n\n", impl.MaxLines-2))
}
