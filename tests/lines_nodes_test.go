package tests

import (
	"math"
	"slices"
	"strconv"
	"strings"
	"testing"

	"loop.example/g00170/impl"
)

func TestNodesAndTheirText(t *testing.T) {
	wantNodesBack(t, oneNode("a"), "a:1")
	wantNodesBack(t, twoNodes(), "a:1 b:2")
	wantNodesBack(t, eightNodes(impl.MaxWeight), "node0:5 node1:5 node2:5 node3:5 node4:5 node5:5 node6:5 node7:5")
	for weight := 1; weight <= impl.MaxWeight; weight++ {
		digit := strconv.Itoa(weight)
		wantNodesBack(t, []impl.Node{{Name: "0", Weight: weight}}, "0:"+digit)
		wantNodesBack(t, []impl.Node{{Name: "abcdefgh", Weight: weight}}, "abcdefgh:"+digit)
		wantNodesBack(t, []impl.Node{{Name: "09azaz90", Weight: 3}, {Name: "9", Weight: weight}, {Name: "a", Weight: 1}, {Name: "aa", Weight: 5}},
			"09azaz90:3 9:"+digit+" a:1 aa:5")
	}
}

func TestNodesThatHaveNoText(t *testing.T) {
	for what, l := range notNodes() {
		wantNoNodesText(t, what, l)
	}
	one := func(name string, weight int) []impl.Node { return []impl.Node{{Name: name, Weight: weight}} }
	for what, l := range map[string][]impl.Node{
		"the zero node": one("", 0), "weight -1": one("a", -1), "weight 6": one("a", 6), "weight 10": one("a", 10), "the greatest weight": one("a", math.MaxInt), "weight 2^32+1": one("a", 1<<32+1),
		"a big letter": one("A", 1), "a colon": one("a:1", 1), "a blank": one("a b", 1), "a blank behind": one("a ", 1), "a byte 10": one("a\n", 1), "no letter of ours": one("é", 1),
		"two of a name": {{Name: "a", Weight: 1}, {Name: "a", Weight: 2}}, "falling last": {{Name: "a", Weight: 1}, {Name: "c", Weight: 1}, {Name: "b", Weight: 1}},
	} {
		wantNoNodesText(t, what, l)
	}
	for at := range impl.MaxNodes {
		l := eightNodes(3)
		l[at].Weight = 0
		wantNoNodesText(t, "one of eight", l)
		l = eightNodes(3)
		l[at].Name += "12345"
		wantNoNodesText(t, "one of eight", l)
	}
}

func TestTextsThatAreNoNodes(t *testing.T) {
	for what, text := range map[string]string{
		"empty": "", "a blank": " ", "blanks": "   ", "a colon": ":", "colons": "::", "a byte 10": "\n",
		"two blanks": "a:1  b:1", "a blank ahead": " a:1", "a blank behind": "a:1 ", "two ahead": "  a:1", "a blank behind two": "a:1 b:1 ", "a tab": "a:1\tb:1", "a line end": "a:1\r\n", "a 10 behind": "a:1\n", "a 10 between": "a:1\nb:1", "a 13 behind": "a:1\r", "a comma": "a:1,b:1",
		"no colon": "a", "no colon, but a weight": "a1", "no colon in the second": "a:1 b", "a blank for a colon": "a 1", "another sign": "a=1", "a blank ahead of the weight": "a: 1", "a blank ahead of the colon": "a :1",
		"two colons": "a::1", "two colons and two weights": "a:1:1", "a colon behind": "a:1:", "a colon ahead": ":a:1", "two colons in the second": "a:1 b:1:2",
		"a nought": "a:01", "noughts": "a:001", "weight 0": "a:0", "weight 00": "a:00", "a plus": "a:+1", "a minus": "a:-1", "minus nought": "a:-0", "a dot": "a:1.", "a half": "a:1.5", "a letter": "a:x", "a letter behind": "a:1x", "an x": "a:0x1", "an underline": "a:1_0", "an e": "a:1e0",
		"weight 6": "a:6", "weight 10": "a:10", "weight 11": "a:11", "a great weight": "a:1000000001", "2^64 and 1": "a:18446744073709551617", "another 1": "a:\u0661",
		"nothing behind the colon": "a:", "nothing behind the second": "a:1 b:", "nothing behind the first": "a: b:1",
		"no name": ":1", "no second name": "a:1 :1", "a big letter": "A:1", "a name of nine": "abcdefghi:1", "a sign in the name": "a-:1", "a name of ours not": "é:1", "a nought byte": "a\x00:1",
		"falling": "b:1 a:1", "alike": "a:1 a:1", "of one name": "a:1 a:2", "falling last": "a:1 c:1 b:1", "by the number": "9:1 10:1", "longer first": "aa:1 a:1",
		"nine": "a:1 b:1 c:1 d:1 e:1 f:1 g:1 h:1 i:1",
	} {
		wantNoNodesIn(t, what, text)
	}
}

// Promise 9: nodes come back from their text, whatever nodes they are.
func TestNodesComeBack(t *testing.T) {
	n := &numbers{}
	many := map[int]int{}
	for range 3000 {
		nodes := wildNodes(n)
		before := copyOfNodes(nodes)
		text, ok := impl.NodesText(nodes)
		if text != slowNodesText(nodes) || !ok {
			t.Fatalf("NodesText(%v) = %q, %v", nodes, text, ok)
		}
		wantNodesBack(t, nodes, text)
		if !slices.Equal(nodes, before) {
			t.Fatalf("the nodes became %v", nodes)
		}
		many[len(nodes)]++
	}
	for i := 1; i <= impl.MaxNodes; i++ {
		if many[i] < 100 {
			t.Error(i, many[i])
		}
	}
}

// spoiltNodes is the text of drawn nodes, some of them not good, in which bytes were put, taken or changed, or none.
func spoiltNodes(n *numbers) string {
	var words []string
	for _, node := range brokenNodes(n) {
		words = append(words, node.Name+":"+strconv.Itoa(node.Weight))
	}
	text := strings.Join(words, " ")
	for range n.below(3) {
		at := n.below(len(text) + 1)
		to := min(len(text), at+n.below(3))
		text = text[:at] + pick(n, []string{"", "", " ", ":", "0", "1", "5", "6", "a", "z", "-", "+", ":1 ", " z:1", "\n", "\r", "A", "\xff"}) + text[to:]
	}
	return text
}

// Promise 9: every text that ReadNodes tells true of is the NodesText of what it tells; which ones these are the second telling says.
func TestReadNodesOfAnyText(t *testing.T) {
	n := &numbers{}
	read, refused := 0, 0
	for range 30000 {
		text := spoiltNodes(n)
		want, ok := slowNodes(text)
		if !ok {
			refused++
			wantNoNodesIn(t, "a spoilt text", text)
		} else {
			read++
			wantNodesBack(t, want, text)
		}
		if t.Failed() {
			return
		}
	}
	if read < 4000 || refused < 4000 {
		t.Error(read, refused)
	}
}
