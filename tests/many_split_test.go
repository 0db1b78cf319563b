package tests

import (
	"math"
	"slices"
	"testing"

	"loop.example/g00170/impl"
)

// Of twoNodes k1, k3 and user:17 belong to a; k2, a, foo and bar to b.
func TestSplitKeysOfTwoNodes(t *testing.T) {
	l := twoNodes()
	wantSplit(t, l, []string{"k1", "k2", "k3", "a", "foo", "bar", "user:17"},
		part("a", "k1", "k3", "user:17"), part("b", "k2", "a", "foo", "bar"))
	wantSplit(t, l, []string{"user:17", "bar", "foo", "a", "k3", "k2", "k1"},
		part("a", "user:17", "k3", "k1"), part("b", "bar", "foo", "a", "k2"))
}

// It is the first key of each part that counts, not the order of the nodes.
func TestPartsInTheOrderOfTheirFirstKeys(t *testing.T) {
	l := twoNodes()
	wantSplit(t, l, []string{"k2", "k1"}, part("b", "k2"), part("a", "k1"))
	wantSplit(t, l, []string{"k1", "k2"}, part("a", "k1"), part("b", "k2"))
	wantSplit(t, l, []string{"k2", "k1", "k2", "k1"}, part("b", "k2", "k2"), part("a", "k1", "k1"))
	n := &numbers{}
	for range 100 {
		l, keys := wildNodes(n), wildKeys(n, mostAsked)
		parts, _ := impl.SplitKeys(l, keys)
		last := -1
		for _, p := range parts {
			at := slices.Index(keys, p.Keys[0])
			if at <= last {
				t.Fatalf("SplitKeys(%v, %q) = %q", l, keys, parts)
			}
			last = at
		}
	}
}

func TestANodeWithoutKeysHasNoPart(t *testing.T) {
	wantSplit(t, twoNodes(), []string{"k1", "k3"}, part("a", "k1", "k3"))
	wantSplit(t, twoNodes(), []string{"k2"}, part("b", "k2"))
	for _, k := range keysOf(mostAsked) {
		wantSplit(t, eightNodes(3), []string{k}, part(slowOwner(eightNodes(3), k), k))
	}
}

func TestSplitKeysAsOftenAsTheyStand(t *testing.T) {
	wantSplit(t, twoNodes(), []string{"k1", "k1"}, part("a", "k1", "k1"))
	wantSplit(t, twoNodes(), []string{"k2", "foo", "k1", "k2", "k2", "foo", "k1"},
		part("b", "k2", "foo", "k2", "k2", "foo"), part("a", "k1", "k1"))
	same := slices.Repeat([]string{"k2"}, mostAsked)
	wantSplit(t, twoNodes(), same, part("b", same...))
}

func TestSplitNoKeys(t *testing.T) {
	for _, keys := range [][]string{nil, {}} {
		wantSplit(t, twoNodes(), keys)
		wantSplit(t, eightNodes(5), keys)
		wantNoSplit(t, "no nodes, no keys", nil, keys)
	}
}

func TestSplitSixtyKeysAndOneMore(t *testing.T) {
	one := []impl.Node{{Name: "a", Weight: 1}}
	for _, many := range []int{1, mostAsked - 1, mostAsked} {
		wantSplit(t, one, keysOf(many), part("a", keysOf(many)...))
	}
	for _, keys := range [][]string{keysOf(mostAsked + 1), manyKeys(mostAsked+1, 1), keysOf(1000)} {
		wantNoSplit(t, "61 keys", one, keys)
		wantNoSplit(t, "61 keys", eightNodes(1), keys)
	}
}

// notKeys are texts that are no key, each by one condition.
var notKeys = []string{"", " ", "a b", "\n", "\r", "a\r\n", "k\x7f", "\x20k", "\xff", "é", key(impl.MaxKey + 1)}

func TestSplitAKeyThatIsNone(t *testing.T) {
	for _, bad := range notKeys {
		for _, many := range []int{1, 2, mostAsked} {
			for _, at := range []int{0, many / 2, many - 1} {
				keys := keysOf(many)
				keys[at] = bad
				wantNoSplit(t, "a key that is none", twoNodes(), keys)
			}
		}
	}
	edges := []string{"!", "~", key(impl.MaxKey)}
	wantSplit(t, twoNodes()[:1], edges, part("a", edges...))
}

// notNodes are nodes that are not good.
func notNodes() map[string][]impl.Node {
	return map[string][]impl.Node{
		"none":         nil,
		"empty":        {},
		"nine":         append(eightNodes(1), impl.Node{Name: "z", Weight: 1}),
		"weight 0":     {{Name: "a"}},
		"weight 6":     {{Name: "a", Weight: 1}, {Name: "b", Weight: 6}},
		"least weight": {{Name: "a", Weight: math.MinInt}},
		"no name":      {{Weight: 1}},
		"a long name":  {{Name: "abcdefghi", Weight: 1}},
		"a sign":       {{Name: "a-", Weight: 1}},
		"alike":        {{Name: "a", Weight: 1}, {Name: "a", Weight: 1}},
		"falling":      {{Name: "b", Weight: 1}, {Name: "a", Weight: 1}},
	}
}

func TestSplitNodesThatAreNotGood(t *testing.T) {
	for what, l := range notNodes() {
		wantNoSplit(t, what, l, nil)
		wantNoSplit(t, what, l, []string{"k1"})
		wantNoSplit(t, what, l, keysOf(mostAsked))
	}
}

// Where two nodes share a point the first name has it, in the parts as well.
func TestSplitAtSharedPoints(t *testing.T) {
	for _, l := range sharedNodes() {
		wantSplit(t, l, keysOf(mostAsked), part(l[0].Name, keysOf(mostAsked)...))
	}
}

func TestSplitAgainstSlowSplit(t *testing.T) {
	n := &numbers{}
	many := map[int]int{}
	for range 400 {
		l, keys := wildNodes(n), wildKeys(n, n.below(mostAsked+1))
		want, _ := slowSplit(l, keys)
		wantSplit(t, l, keys, want...)
		many[len(want)]++
	}
	for parts := range impl.MaxNodes + 1 {
		if many[parts] == 0 {
			t.Errorf("nothing was split into %d parts", parts)
		}
	}
}
